
/-
  The walk of VmSteps.
-/
import Derived.Test.YtkciedcfphhenaaRows
import Derived.WalkKit
import Derived.ProofKit
import Derived.OpenShut
import Derived.ShutString
import Derived.ChangeOld
import Derived.Below
import Derived.Test.YtkciedcfphhenaaVmDocB
import Derived.Test.YtkciedcfphhenaaThrI
import Derived.Test.YtkciedcfphhenaaTMay
import Derived.Test.YtkciedcfphhenaaPrOpen
import Derived.Test.YtkciedcfphhenaaThrOpen
import Derived.Test.YtkciedcfphhenaaSDeep
namespace Go.Proofs.Ytkciedcfphhenaa.vmSteps
open Go.ChangeShapes Go.WideShapes Go.ChangeAt Go.RowKit Go.Proofs.Ytkciedcfphhenaa Go.Proofs.Ytkciedcfphhenaa.Plain
open Go.ChangeMaps (open_string shut_string)
set_option linter.unusedVariables false



theorem bcellV {W w1 : World} (hb : Below W.heap.size W w1) : (∀ b o, b < W.heap.size → w1.cell? ⟨b, o, none⟩ = W.cell? ⟨b, o, none⟩) ∧ (∀ b o, b < W.heap.size → w1.frozen? ⟨b, o, none⟩ = W.frozen? ⟨b, o, none⟩) :=
  ⟨fun b o h => hb.cell (p := ⟨b, o, none⟩) h, fun b o h => hb.frozen (p := ⟨b, o, none⟩) h⟩
/-- The boxes of the document's Tell: the result's, and the thread so far. -/
structure VQ (w wr : World) (D : Nat → Prop) (hk : TH) (tk : TV) : Prop where
  b1 : Blk wr (w.heap.size + 1) 29 #[.int .i64 0, .int .i64 0, .slice none 0 0, .slice none 0 0, .int .i64 0]
  b2 : Blk wr (w.heap.size + 1 + 1) 29 #[.int .i64 tk.state, .int .i64 tk.on, .slice hk.fA tk.frames.length hk.fc, .slice hk.sA tk.stack.length hk.sc, .int .i64 tk.code]
  rt : RT wr (fun i => (D i ∧ i < w.heap.size) ∨ w.heap.size + 1 + 1 + 1 ≤ i) hk tk
  len : LensT tk
  bel : Below w.heap.size w wr
theorem VQ.step {w wr w1 : World} {D : Nat → Prop} {hk : TH} {tk : TV} (g : VQ w wr D hk tk) (hb : Below wr.heap.size wr w1) {hj : TH} {t' : TV} (hr : RT w1 (fun i => ((D i ∧ i < w.heap.size) ∨ w.heap.size + 1 + 1 + 1 ≤ i) ∨ wr.heap.size ≤ i) hj t') (hl : LensT t') : VQ w (((((w1.setCell ⟨w.heap.size + 1 + 1, 0, none⟩ (.int .i64 t'.state)).setCell ⟨w.heap.size + 1 + 1, 1, none⟩ (.int .i64 t'.on)).setCell ⟨w.heap.size + 1 + 1, 2, none⟩ (.slice hj.fA t'.frames.length hj.fc)).setCell ⟨w.heap.size + 1 + 1, 3, none⟩ (.slice hj.sA t'.stack.length hj.sc)).setCell ⟨w.heap.size + 1 + 1, 4, none⟩ (.int .i64 t'.code)) D hj t' := by
  have hz := g.bel.size
  have hl1 := g.b2.lt
  have hf := (Fr.refl (fun i => i = w.heap.size + 1 + 1) w1).set5 (g := w.heap.size + 1 + 1) (.inl rfl) (.int .i64 t'.state) (.int .i64 t'.on) (.slice hj.fA t'.frames.length hj.fc) (.slice hj.sA t'.stack.length hj.sc) (.int .i64 t'.code)
  refine ⟨(g.b1.below hb g.b1.lt).far5 (g' := w.heap.size + 1 + 1) (by omega) (.int .i64 t'.state) (.int .i64 t'.on) (.slice hj.fA t'.frames.length hj.fc) (.slice hj.sA t'.stack.length hj.sc) (.int .i64 t'.code), (g.b2.below hb g.b2.lt).set5 (.int .i64 t'.state) (.int .i64 t'.on) (.slice hj.fA t'.frames.length hj.fc) (.slice hj.sA t'.stack.length hj.sc) (.int .i64 t'.code), ?_, hl, (g.bel.trans (hb.mono hz)).trans (hf.below (Nat.le_trans hz hb.size) (fun i hi => by omega))⟩
  exact (hr.keep fun x hx hx2 => hf.cell hx2 (fun e => by omega)).mono fun i hi _ => by rcases hi with hi | hi; exact hi; exact .inr (by omega)
def VQR (w : World) (D : Nat → Prop) (t : TV) (l : List Int) (s : Value) (wr : World) : Prop :=
  ∃ (k : Nat) (hk : TH) (tk : TV), k ≤ l.length ∧ s = .int .i64 (k : Int) ∧ VQ w wr D hk tk ∧ pushAll t l = pushAll tk (l.drop k)
/-- What a pushing leaves: the next thread in a box. -/
def VQC (wr : World) (E : Nat → Prop) (x : TV) (b : Bool) (s8 s9 : Value) (wx : World) : Prop :=
  ∃ (ab : Nat) (h' : TH), s8 = .pointer (some ⟨ab, 0, none⟩) ∧ s9 = .bool b ∧ wr.heap.size ≤ ab ∧ Blk wx ab 29 #[.int .i64 x.state, .int .i64 x.on, .slice h'.fA x.frames.length h'.fc, .slice h'.sA x.stack.length h'.sc, .int .i64 x.code] ∧ RT wx (fun i => E i ∨ (wr.heap.size ≤ i ∧ i ≠ ab)) h' x ∧ Below wr.heap.size wr wx
set_option maxHeartbeats 8000000 in
set_option maxRecDepth 100000 in
theorem refTell5_any (ht : TH) (t : TV) (l : List Int) (A : Option Addr) (n c : Nat) (w : World) (D : Nat → Prop) (hr : RT w D ht t) (hl : LensT t) (hri : RI w w.heap.size A n c l) (hn : n ≤ 1000000) :
    Calls Try.prog 19 #[.agg #[.int .i64 t.state, .int .i64 t.on, .slice ht.fA t.frames.length ht.fc, .slice ht.sA t.stack.length ht.sc, .int .i64 t.code], .slice A n c] w fun e w' => ∃ hx : TH, e = .returned (.tuple #[.agg #[.int .i64 (pushAll t l).1.state, .int .i64 (pushAll t l).1.on, .slice hx.fA (pushAll t l).1.frames.length hx.fc, .slice hx.sA (pushAll t l).1.stack.length hx.sc, .int .i64 (pushAll t l).1.code], .bool (pushAll t l).2]) ∧ RT w' (fun i => D i ∨ w.heap.size ≤ i) hx (pushAll t l).1 ∧ Below w.heap.size w w' := by
  obtain ⟨a1, c1, s1, d1⟩ := ht
  obtain rfl : l.length = n := hri.1
  have HRI := Lib.hid hri
  clear hri
  go_enter Try.func19, Try.ntmps19
  have hvq : VQ w (((w.alloc (.cells #[.int .i64 t.state, .int .i64 t.on, .slice a1 t.frames.length c1, .slice s1 t.stack.length d1, .int .i64 t.code] 29)).alloc (.cells #[.int .i64 0, .int .i64 0, .slice none 0 0, .slice none 0 0, .int .i64 0] 29)).alloc (.cells #[.int .i64 t.state, .int .i64 t.on, .slice a1 t.frames.length c1, .slice s1 t.stack.length d1, .int .i64 t.code] 29)) D ⟨a1, c1, s1, d1⟩ t := by
    refine ⟨Blk.alloc ?_ _, ?_, ((((hr.cut.mono (E := fun i => (D i ∧ i < w.heap.size) ∨ w.heap.size + 1 + 1 + 1 ≤ i) fun i h _ => .inl h).alloc _).alloc _).alloc _), hl, (((Below.refl _ _).alloc (Nat.le_refl _) _).alloc (by simp) _).alloc (by simp; omega) _⟩
    · simpa using Blk.new (w.alloc (.cells #[.int .i64 t.state, .int .i64 t.on, .slice a1 t.frames.length c1, .slice s1 t.stack.length d1, .int .i64 t.code] 29)) 29 #[.int .i64 0, .int .i64 0, .slice none 0 0, .slice none 0 0, .int .i64 0]
    · simpa using Blk.new ((w.alloc (.cells #[.int .i64 t.state, .int .i64 t.on, .slice a1 t.frames.length c1, .slice s1 t.stack.length d1, .int .i64 t.code] 29)).alloc (.cells #[.int .i64 0, .int .i64 0, .slice none 0 0, .slice none 0 0, .int .i64 0] 29)) 29 #[.int .i64 t.state, .int .i64 t.on, .slice a1 t.frames.length c1, .slice s1 t.stack.length d1, .int .i64 t.code]
  have HVQ := Lib.hid hvq
  clear hr hl hvq
  go_wp2_with fail
  go_loopw [7] (fun s7 wr => VQR w D t l s7 wr) (fun s7 _ => l.length - (intOf s7).toNat)
  case atStart => exact ⟨0, _, _, Nat.zero_le _, rfl, HVQ.out, by simp⟩
  case round =>
    obtain ⟨k, ⟨ak, ck, sk, dk⟩, tk, hk, rfl, g, hp⟩ := hrel
    have G := Lib.hid g; have HP := Lib.hid hp
    by_cases hlt : k < l.length
    · obtain ⟨ad, z, hA, hab, hz, hc⟩ := HRI.out.at_ (k := k) hlt
      have hdr : l.drop k = z :: l.drop (k + 1) := by rw [List.drop_eq_getElem_cons hlt]; congr 1; exact Option.some.inj ((List.getElem?_eq_getElem hlt).symm.trans hz)
      have HDR := Lib.hid hdr
      subst hA
      have hck := fun (X : World) (hX : Below wr.heap.size wr X) => ((g.bel.trans (hX.mono g.bel.size)).cell (p := ad.add k) (by simpa [block_of_add] using hab)).trans hc
      have hlti : (k : Int) < (l.length : Int) := by omega
      have hms := fun (X : World) (hX : Below wr.heap.size wr X) => (g.b2.below hX g.b2.lt)
      obtain ⟨x, hx⟩ : ∃ x, x = if tk.stack.length < 16 then pushT tk z else tk := ⟨_, rfl⟩
      have hpu := fun (X : World) (hX : Below wr.heap.size wr X) => refPush_all ⟨ak, ck, sk, dk⟩ tk z X (fun i => ((D i ∧ i < w.heap.size) ∨ w.heap.size + 1 + 1 + 1 ≤ i) ∧ i < wr.heap.size) ((g.rt.mono fun i h hl => ⟨h, hl⟩).below hX) g.len x hx
      have KS : ∀ X, Below wr.heap.size wr X → X.cell? ⟨w.heap.size + 1 + 1, 0, none⟩ = some (.int .i64 tk.state) ∧ X.cell? ⟨w.heap.size + 1 + 1, 1, none⟩ = some (.int .i64 tk.on) ∧ X.cell? ⟨w.heap.size + 1 + 1, 2, none⟩ = some (.slice ak tk.frames.length ck) ∧ X.cell? ⟨w.heap.size + 1 + 1, 3, none⟩ = some (.slice sk tk.stack.length dk) ∧ X.cell? ⟨w.heap.size + 1 + 1, 4, none⟩ = some (.int .i64 tk.code) ∧ X.cell? (ad.add k) = some (.int .i64 z) := fun X hX => ⟨((hms X hX).cell 0).trans rfl, ((hms X hX).cell 1).trans rfl, ((hms X hX).cell 2).trans rfl, ((hms X hX).cell 3).trans rfl, ((hms X hX).cell 4).trans rfl, hck X hX⟩
      obtain ⟨m0, m1, m2, m3, m4, m5⟩ := KS wr (Below.refl _ _)
      have HKS := Lib.hid KS; have HPU := Lib.hid hpu; have HX := Lib.hid hx
      obtain ⟨bb, hbb⟩ : ∃ b, b = decide (tk.stack.length < 16) := ⟨_, rfl⟩
      rw [← hbb] at HPU
      have HBB := Lib.hid hbb
      have hlt2 := g.b2.lt
      have hzz := g.bel.size
      clear g hp hz hc hdr hab hms hck hpu hx hbb KS
      go_upto_region 5 with fail
      go_cut [8, 9] (fun s8 s9 wx => VQC wr (fun i => ((D i ∧ i < w.heap.size) ∨ w.heap.size + 1 + 1 + 1 ≤ i) ∧ i < wr.heap.size) x bb s8 s9 wx)
      case first =>
        go_region_held3 (fun X => X.cell? ⟨w.heap.size + 1 + 1, 0, none⟩ = some (.int .i64 tk.state) ∧ X.cell? ⟨w.heap.size + 1 + 1, 1, none⟩ = some (.int .i64 tk.on) ∧ X.cell? ⟨w.heap.size + 1 + 1, 2, none⟩ = some (.slice ak tk.frames.length ck) ∧ X.cell? ⟨w.heap.size + 1 + 1, 3, none⟩ = some (.slice sk tk.stack.length dk) ∧ X.cell? ⟨w.heap.size + 1 + 1, 4, none⟩ = some (.int .i64 tk.code) ∧ X.cell? (ad.add k) = some (.int .i64 z))
          (first | (exact HKS.out _ (by repeat (first | assumption | exact Below.refl _ _ | refine Below.drew ?_ | refine Below.setCell ?_ (by simp <;> omega) _ | refine Below.alloc ?_ (by have := hbq.size; simp <;> omega) _ | refine Below.alloc ?_ (by simp <;> omega) _))))
          (first
            | (go_simp; go_at_call 40; refine (HPU.out _ (by repeat (first | assumption | exact Below.refl _ _ | refine Below.drew ?_ | refine Below.setCell ?_ (by simp <;> omega) _ | refine Below.alloc ?_ (by have := hbq.size; simp <;> omega) _ | refine Below.alloc ?_ (by simp <;> omega) _))).mono ?_; rintro en w1 ⟨⟨aj, cj, sj, dj⟩, rfl, hrt, h4⟩
               have hbq : Below wr.heap.size wr w1 := Below.trans (by repeat (first | exact Below.refl _ _ | refine Below.drew ?_ | refine Below.alloc ?_ (by simp <;> omega) _)) (h4.mono (by simp <;> omega))
               obtain ⟨hcc, hff⟩ := bcellV h4
               have hzz1 := h4.size
               simp at hzz1))
        all_goals
          go_wp2_with fail
          go_meet
          first
            | exact ⟨_, ⟨aj, cj, sj, dj⟩, rfl, rfl, hbq.size, Blk.new w1 _ _, (hrt.mono (fun i hi hl => by rcases hi with hi | hi; exact .inl hi; exact .inr ⟨by simp at hi; omega, by omega⟩)).alloc _, hbq.alloc (by have := hbq.size; omega) _⟩
            | (have hf := (Fr.refl (fun i => i = wr.heap.size) w1).set5 (g := wr.heap.size) (.inl rfl) (.int .i64 x.state) (.int .i64 x.on) (.slice aj x.frames.length cj) (.slice sj x.stack.length dj) (.int .i64 x.code)
               have hnb := Blk.new wr 29 #[.int .i64 0, .int .i64 0, .slice none 0 0, .slice none 0 0, .int .i64 0]
               refine ⟨_, ⟨aj, cj, sj, dj⟩, rfl, rfl, Nat.le_refl _, ((by first | exact hnb.below h4 (by simp) | exact (hnb.drew).below h4 (by simp) : Blk w1 wr.heap.size 29 #[.int .i64 0, .int .i64 0, .slice none 0 0, .slice none 0 0, .int .i64 0]).set5 _ _ _ _ _), (hrt.keep fun q hq hl => hf.cell hl (fun e => ?_)).mono (fun i hi hl => ?_), hbq.trans (hf.below hbq.size (fun i e => by omega))⟩
               · rcases hq with hq | hq
                 · have := hq.2; omega
                 · simp at hq; omega
               · rcases hi with hi | hi
                 · exact .inl hi
                 · simp at hi; exact .inr ⟨by omega, by omega⟩)
            | fail
      case rest =>
        obtain ⟨ab, ⟨aj, cj, sj, dj⟩, rfl, rfl, hab, hbk, hrt, hbw⟩ := hcut
        clear m0 m1 m2 m3 m4 m5 HKS HPU hlti hlt2 hzz
        have hb1 := G.out.b1.below hbw G.out.b1.lt
        have hb2 := G.out.b2.below hbw G.out.b2.lt
        by_cases h16 : tk.stack.length < 16
        · have hxe : x = pushT tk z := by rw [HX.out, if_pos h16]
          have hbe : bb = true := by rw [HBB.out, decide_eq_true h16]
          subst hxe hbe
          have hst := G.out.step hbw (hrt.mono (fun i hi hl => by rcases hi with hi | hi; exact .inl hi.1; exact .inr hi.1)) (lens_push z G.out.len h16)
          have hpe : pushAll t l = pushAll (pushT tk z) (l.drop (k + 1)) := by rw [HP.out, HDR.out]; simp [pushAll, h16]
          have HST := Lib.hid hst; have HPE := Lib.hid hpe
          generalize pushT tk z = x at *
          have x0 : wc.cell? ⟨ab, 0, none⟩ = some (.int .i64 x.state) := ((hbk).cell 0).trans rfl
          have x1 : wc.cell? ⟨ab, 1, none⟩ = some (.int .i64 x.on) := ((hbk).cell 1).trans rfl
          have x2 : wc.cell? ⟨ab, 2, none⟩ = some (.slice aj x.frames.length cj) := ((hbk).cell 2).trans rfl
          have x3 : wc.cell? ⟨ab, 3, none⟩ = some (.slice sj x.stack.length dj) := ((hbk).cell 3).trans rfl
          have x4 : wc.cell? ⟨ab, 4, none⟩ = some (.int .i64 x.code) := ((hbk).cell 4).trans rfl
          have m0 : wc.cell? ⟨w.heap.size + 1 + 1, 0, none⟩ = some (.int .i64 tk.state) := ((hb2).cell 0).trans rfl
          have mz0 : wc.frozen? ⟨w.heap.size + 1 + 1, 0, none⟩ = false := (hb2).frozen 0
          have m1 : wc.cell? ⟨w.heap.size + 1 + 1, 1, none⟩ = some (.int .i64 tk.on) := ((hb2).cell 1).trans rfl
          have mz1 : wc.frozen? ⟨w.heap.size + 1 + 1, 1, none⟩ = false := (hb2).frozen 1
          have m2 : wc.cell? ⟨w.heap.size + 1 + 1, 2, none⟩ = some (.slice ak tk.frames.length ck) := ((hb2).cell 2).trans rfl
          have mz2 : wc.frozen? ⟨w.heap.size + 1 + 1, 2, none⟩ = false := (hb2).frozen 2
          have m3 : wc.cell? ⟨w.heap.size + 1 + 1, 3, none⟩ = some (.slice sk tk.stack.length dk) := ((hb2).cell 3).trans rfl
          have mz3 : wc.frozen? ⟨w.heap.size + 1 + 1, 3, none⟩ = false := (hb2).frozen 3
          have m4 : wc.cell? ⟨w.heap.size + 1 + 1, 4, none⟩ = some (.int .i64 tk.code) := ((hb2).cell 4).trans rfl
          have mz4 : wc.frozen? ⟨w.heap.size + 1 + 1, 4, none⟩ = false := (hb2).frozen 4
          have hlt1 := hb2.lt
          have hlt3 := hbk.lt
          have hne : ab ≠ w.heap.size + 1 + 1 := by have := G.out.b2.lt; omega
          clear hb1 hb2 hbk hrt hbw hst hpe G HP HDR h16 hab HX HBB
          go_wp2_with fail
          exact ⟨⟨k + 1, _, _, by omega, by go_num, HST.out, HPE.out⟩, by simp [intOf]; omega⟩
        · have hbe : bb = false := by rw [HBB.out, decide_eq_false h16]
          subst hbe
          have hpe : pushAll t l = (⟨9, 0, [], [], 2⟩, false) := by rw [HP.out, HDR.out]; simp [pushAll, h16]
          have hbl := G.out.bel.trans (hbw.mono G.out.bel.size)
          have HPE := Lib.hid hpe; have HB1 := Lib.hid hb1; have HBL0 := Lib.hid hbl
          clear hb1 hb2 hbk hrt hbw hbl hpe G HP HDR h16 hab HX HBB
          go_wp2_with fail
          refine (refEnd_any 2 _).mono ?_
          rintro e W3 ⟨rfl, hb⟩
          have hbr := HB1.out.below hb HB1.out.lt
          have hbel := HBL0.out.trans (hb.mono HBL0.out.size)
          have HBR := Lib.hid hbr; have HBL := Lib.hid hbel
          have m0 : W3.cell? ⟨w.heap.size + 1, 0, none⟩ = some (.int .i64 0) := ((hbr).cell 0).trans rfl
          have mz0 : W3.frozen? ⟨w.heap.size + 1, 0, none⟩ = false := (hbr).frozen 0
          have m1 : W3.cell? ⟨w.heap.size + 1, 1, none⟩ = some (.int .i64 0) := ((hbr).cell 1).trans rfl
          have mz1 : W3.frozen? ⟨w.heap.size + 1, 1, none⟩ = false := (hbr).frozen 1
          have m2 : W3.cell? ⟨w.heap.size + 1, 2, none⟩ = some (.slice none 0 0) := ((hbr).cell 2).trans rfl
          have mz2 : W3.frozen? ⟨w.heap.size + 1, 2, none⟩ = false := (hbr).frozen 2
          have m3 : W3.cell? ⟨w.heap.size + 1, 3, none⟩ = some (.slice none 0 0) := ((hbr).cell 3).trans rfl
          have mz3 : W3.frozen? ⟨w.heap.size + 1, 3, none⟩ = false := (hbr).frozen 3
          have m4 : W3.cell? ⟨w.heap.size + 1, 4, none⟩ = some (.int .i64 0) := ((hbr).cell 4).trans rfl
          have mz4 : W3.frozen? ⟨w.heap.size + 1, 4, none⟩ = false := (hbr).frozen 4
          have hlt2 := hbr.lt
          clear hbr hbel hb
          go_wp2_with fail
          have hf := (Fr.refl (fun i => i = w.heap.size + 1) W3).set5 (g := w.heap.size + 1) (.inl rfl) (.int .i64 9) (.int .i64 0) (.slice none 0 0) (.slice none 0 0) (.int .i64 2)
          refine bodyPost_ret (v := .tuple #[.agg #[.int .i64 9, .int .i64 0, .slice none 0 0, .slice none 0 0, .int .i64 2], .bool false]) (results_cell_slot rfl _ _ (w.heap.size + 1) 29 _ (0, 0) _ _ rfl rfl (HBR.out.set5 (.int .i64 9) (.int .i64 0) (.slice none 0 0) (.slice none 0 0) (.int .i64 2)) Try.underlying29 rfl (by kernel_rfl)) rfl ?_
          refine ⟨⟨none, 0, none, 0⟩, by rw [HPE.out]; rfl, ?_, HBL.out.trans (hf.below HBL.out.size (fun i hi => by omega))⟩
          rw [HPE.out]
          exact (dead_rt 2 _).mono fun i hi _ => hi.elim
    · have hkn : k = l.length := by omega
      have hpe : pushAll t l = (tk, true) := by rw [HP.out, hkn, List.drop_length]; rfl
      have HPE := Lib.hid hpe
      have hlti : ¬ (k : Int) < (l.length : Int) := by omega
      have m0 : wr.cell? ⟨w.heap.size + 1 + 1, 0, none⟩ = some (.int .i64 tk.state) := ((g.b2).cell 0).trans rfl
      have m1 : wr.cell? ⟨w.heap.size + 1 + 1, 1, none⟩ = some (.int .i64 tk.on) := ((g.b2).cell 1).trans rfl
      have m2 : wr.cell? ⟨w.heap.size + 1 + 1, 2, none⟩ = some (.slice ak tk.frames.length ck) := ((g.b2).cell 2).trans rfl
      have m3 : wr.cell? ⟨w.heap.size + 1 + 1, 3, none⟩ = some (.slice sk tk.stack.length dk) := ((g.b2).cell 3).trans rfl
      have m4 : wr.cell? ⟨w.heap.size + 1 + 1, 4, none⟩ = some (.int .i64 tk.code) := ((g.b2).cell 4).trans rfl
      have o0 : wr.cell? ⟨w.heap.size + 1, 0, none⟩ = some (.int .i64 0) := ((g.b1).cell 0).trans rfl
      have oz0 : wr.frozen? ⟨w.heap.size + 1, 0, none⟩ = false := (g.b1).frozen 0
      have o1 : wr.cell? ⟨w.heap.size + 1, 1, none⟩ = some (.int .i64 0) := ((g.b1).cell 1).trans rfl
      have oz1 : wr.frozen? ⟨w.heap.size + 1, 1, none⟩ = false := (g.b1).frozen 1
      have o2 : wr.cell? ⟨w.heap.size + 1, 2, none⟩ = some (.slice none 0 0) := ((g.b1).cell 2).trans rfl
      have oz2 : wr.frozen? ⟨w.heap.size + 1, 2, none⟩ = false := (g.b1).frozen 2
      have o3 : wr.cell? ⟨w.heap.size + 1, 3, none⟩ = some (.slice none 0 0) := ((g.b1).cell 3).trans rfl
      have oz3 : wr.frozen? ⟨w.heap.size + 1, 3, none⟩ = false := (g.b1).frozen 3
      have o4 : wr.cell? ⟨w.heap.size + 1, 4, none⟩ = some (.int .i64 0) := ((g.b1).cell 4).trans rfl
      have oz4 : wr.frozen? ⟨w.heap.size + 1, 4, none⟩ = false := (g.b1).frozen 4
      have hl1 := g.b1.lt
      have hl2 := g.b2.lt
      clear g hp hpe
      go_wp2_with fail
      have hf := (Fr.refl (fun i => i = w.heap.size + 1) wr).set5 (g := w.heap.size + 1) (.inl rfl) (.int .i64 tk.state) (.int .i64 tk.on) (.slice ak tk.frames.length ck) (.slice sk tk.stack.length dk) (.int .i64 tk.code)
      refine bodyPost_ret (v := .tuple #[.agg #[.int .i64 tk.state, .int .i64 tk.on, .slice ak tk.frames.length ck, .slice sk tk.stack.length dk, .int .i64 tk.code], .bool true]) (results_cell_slot rfl _ _ (w.heap.size + 1) 29 _ (0, 0) _ _ rfl rfl (G.out.b1.set5 _ _ _ _ _) Try.underlying29 rfl (by kernel_rfl)) rfl ?_
      refine ⟨⟨ak, ck, sk, dk⟩, by rw [HPE.out], ?_, G.out.bel.trans (hf.below G.out.bel.size (fun i hi => by omega))⟩
      rw [HPE.out]
      exact (G.out.rt.keep fun q hq hl => hf.cell hl (fun e => by rcases hq with hq | hq <;> omega)).mono fun i hi _ => by rcases hi with hi | hi; exact .inl hi.1; exact .inr (by omega)
theorem cells5 {W : World} {g : Nat} {T : TypeId} {x0 x1 x2 x3 x4 : Value} (h : Blk W g T #[x0, x1, x2, x3, x4]) :
    W.cell? ⟨g, 0, none⟩ = some x0 ∧ W.cell? ⟨g, 1, none⟩ = some x1 ∧ W.cell? ⟨g, 2, none⟩ = some x2 ∧ W.cell? ⟨g, 3, none⟩ = some x3 ∧ W.cell? ⟨g, 4, none⟩ = some x4 :=
  ⟨(h.cell 0).trans rfl, (h.cell 1).trans rfl, (h.cell 2).trans rfl, (h.cell 3).trans rfl, (h.cell 4).trans rfl⟩
theorem run_after {p : PV} (hp : mayB p = true) : ∀ (m : Nat) {t : TV}, mayT p t = true → t.state ≠ 9 → (∃ c, (c = 0 ∨ c = 1 ∨ c = 2 ∨ c = 3 ∨ c = 6) ∧ (runV p m t).1 = deadT c ∧ (runV p m t).2.1 = ⟨1, 0, c⟩) ∨ ((runV p m t).2.1.kind ≠ 1 ∧ mayT p (runV p m t).1 = true ∧ (runV p m t).1.state = t.state)
  | 0, t, h, hs => .inr ⟨(by decide : (0 : Int) ≠ 1), h, rfl⟩
  | m + 1, t, h, hs => by
    rw [runV_succ]
    rcases step_after hp h hs with ⟨c, hc, e⟩ | ⟨h1, h2, h3, h4⟩
    · rw [e]
      rw [if_neg (by show ¬ (1 : Int) = 0; decide)]
      exact .inl ⟨c, hc, rfl, rfl⟩
    · by_cases h0 : (stepV p t).2.kind = 0
      · rw [if_pos h0]
        have ih := run_after hp m h2 (by rw [h3]; exact hs)
        simp only [addN]
        rw [h3] at ih
        exact ih
      · rw [if_neg h0]
        exact .inr ⟨h1, h2, h3⟩
theorem rp_below {w w' : World} {B : Nat} {h : PH} {p : PV} {N : Nat} (hr : RP w B h p) (hB : Below N w w') (hN : B ≤ N) : RP w' B h p := hr.keep fun q hq => hB.cell (Nat.lt_of_lt_of_le hq hN)
theorem as_any5 (k a v : Int) (w : World) : Calls Try.prog 16 #[.agg #[.int .i64 k, .int .i64 a, .int .i64 v]] w fun e w' => e = .returned (.agg #[.int .i64 k, .int .i64 a, .int .i64 v]) ∧ Below w.heap.size w w' := by
  obtain ⟨W0, hW0⟩ : ∃ W, W = (w.alloc (.cells #[.int .i64 k, .int .i64 a, .int .i64 v] 34)).alloc (.cells #[.int .i64 0, .int .i64 0, .int .i64 0] 37) := ⟨_, rfl⟩
  have h0 : Blk W0 w.heap.size 34 #[.int .i64 k, .int .i64 a, .int .i64 v] := by rw [hW0]; exact (Blk.new w _ _).alloc _
  have h1 : Blk W0 (w.heap.size + 1) 37 #[.int .i64 0, .int .i64 0, .int .i64 0] := by rw [hW0]; simpa using Blk.new (w.alloc (.cells #[.int .i64 k, .int .i64 a, .int .i64 v] 34)) 37 #[.int .i64 0, .int .i64 0, .int .i64 0]
  have hb : Below w.heap.size w W0 := by rw [hW0]; exact ((Below.refl _ w).alloc (Nat.le_refl _) _).alloc (by simp) _
  have a0 := (h0.cell 0).trans rfl
  have a1 := (h0.cell 1).trans rfl
  have a2 := (h0.cell 2).trans rfl
  have b0 := (h1.cell 0).trans rfl
  have b1 := (h1.cell 1).trans rfl
  have b2 := (h1.cell 2).trans rfl
  have f0 := h1.frozen 0
  have f1 := h1.frozen 1
  have f2 := h1.frozen 2
  have hs := h1.set3 (.int .i64 k) (.int .i64 a) (.int .i64 v)
  have hfr := (Fr.refl (fun i => i = w.heap.size + 1) W0).set3 (g := w.heap.size + 1) (.inl rfl) (.int .i64 k) (.int .i64 a) (.int .i64 v)
  have HE := Lib.hid (⟨hs, hb.trans (hfr.below hb.size (fun i e => by omega))⟩ : _ ∧ _)
  have HW0 := Lib.hid hW0
  clear hW0 h0 h1 hb hs hfr
  go_enter Try.func16, Try.ntmps16
  go_upto_region 1 with fail
  rw [← HW0.out]
  clear HW0
  go_wp2_with fail
  refine bodyPost_ret (v := .agg #[.int .i64 k, .int .i64 a, .int .i64 v]) (results_cell_row rfl _ _ (w.heap.size + 1) 37 _ (0, 0) _ rfl HE.out.1 Try.underlying37 rfl (by kernel_rfl)) rfl ?_
  exact ⟨rfl, HE.out.2⟩
theorem push_all_lens : ∀ (l : List Int) {t : TV}, LensT t → LensT (pushAll t l).1
  | [], t, h => h
  | v :: r, t, h => by
    unfold pushAll
    by_cases h1 : t.stack.length < 16
    · rw [if_pos h1]
      exact push_all_lens r (lens_push v h h1)
    · rw [if_neg h1]
      exact ⟨by simp, by simp, by simp⟩
/-- Where VmSteps stands. -/
structure StI (w wr : World) (gb xb : Nat) (hp : PH) (g : PV) (hx : TH) (x : TV) : Prop where
  pb : PB w wr gb gb hp g
  tb : Blk wr xb 29 #[.int .i64 x.state, .int .i64 x.on, .slice hx.fA x.frames.length hx.fc, .slice hx.sA x.stack.length hx.sc, .int .i64 x.code]
  rt : RT wr (fun i => i ≠ xb) hx x
  may : mayT g x = true
  st : x.state = 0
theorem StI.below {w wr W : World} {gb xb : Nat} {hp : PH} {g : PV} {hx : TH} {x : TV} (h : StI w wr gb xb hp g hx x) (hb : Below wr.heap.size wr W) : StI w W gb xb hp g hx x := ⟨h.pb.below hb, h.tb.below hb h.tb.lt, h.rt.below hb, h.may, h.st⟩
/-- Another thread is put into its box. -/
theorem StI.put {w wr W : World} {gb xb : Nat} {hp : PH} {g : PV} {hx hy : TH} {x y : TV} (h : StI w wr gb xb hp g hx x) (hb : Below wr.heap.size wr W) (hr : RT W (fun i => i ≠ xb) hy y) (hm : mayT g y = true) (hs : y.state = 0) (hw : w.heap.size ≤ xb) (hne : gb < xb) : StI w (((((W.setCell ⟨xb, 0, none⟩ (.int .i64 y.state)).setCell ⟨xb, 1, none⟩ (.int .i64 y.on)).setCell ⟨xb, 2, none⟩ (.slice hy.fA y.frames.length hy.fc)).setCell ⟨xb, 3, none⟩ (.slice hy.sA y.stack.length hy.sc)).setCell ⟨xb, 4, none⟩ (.int .i64 y.code)) gb xb hp g hy y := by
  have hf : Fr (fun i => i = xb) W (((((W.setCell ⟨xb, 0, none⟩ (.int .i64 y.state)).setCell ⟨xb, 1, none⟩ (.int .i64 y.on)).setCell ⟨xb, 2, none⟩ (.slice hy.fA y.frames.length hy.fc)).setCell ⟨xb, 3, none⟩ (.slice hy.sA y.stack.length hy.sc)).setCell ⟨xb, 4, none⟩ (.int .i64 y.code)) := (Fr.refl (fun i => i = xb) W).set5 (g := xb) (.inl rfl) _ _ _ _ _
  have hpb := h.pb.below hb
  have hgl := hpb.pb.lt
  exact ⟨⟨hf.blk hpb.pb (fun e => by omega), hpb.rp.keep (fun q hq => hf.cell (by omega) (fun e => by omega)), hpb.bel.trans (hf.below hpb.bel.size (fun i e => by omega)), Nat.le_trans hpb.hBP hf.size⟩, (h.tb.below hb h.tb.lt).set5 _ _ _ _ _, hr.keep (fun q hq hl => hf.cell hl (fun e => hq e)), hm, hs⟩
theorem dead_may {g : PV} {c : Int} (hc : c = 0 ∨ c = 1 ∨ c = 2 ∨ c = 3 ∨ c = 6) : mayT g (deadT c) = true := by
  rcases hc with rfl | rfl | rfl | rfl | rfl <;> simp [mayT, deadT, keptB, isKept]
/-- A thread that was told numbers lies in its box. -/
def TiC (W : World) (E : Nat → Prop) (y : TV) (ok : Bool) (s16 s17 : Value) (wx : World) : Prop :=
  ∃ (tb : Nat) (hx : TH), s16 = .pointer (some ⟨tb, 0, none⟩) ∧ s17 = .bool ok ∧ Blk wx tb 29 #[.int .i64 y.state, .int .i64 y.on, .slice hx.fA y.frames.length hx.fc, .slice hx.sA y.stack.length hx.sc, .int .i64 y.code] ∧ RT wx E hx y ∧ Below W.heap.size W wx
theorem ri_one {X : World} {B : Nat} {ad : Addr} {v : Int} (h : ad.block < B) (hc : X.cell? ad = some (.int .i64 v)) : RI X B (some ad) 1 1 [v] :=
  ⟨rfl, Nat.le_refl _, rfl, fun _ => ⟨ad, rfl, h, fun j u hj => by
    match j, hj with
    | 0, hj =>
      simp [IS] at hj
      subst hj
      rw [show ad.add 0 = ad from by cases ad; rfl]
      exact hc⟩⟩
theorem push_one_state {x : TV} (v : Int) : (pushAll x [v]).2 = true → (pushAll x [v]).1.state = x.state := by
  unfold pushAll
  split
  · intro _; rfl
  · intro h; cases h
set_option maxRecDepth 100000 in
set_option maxHeartbeats 40000000 in
theorem walk (hd0 : PH) (q0 : PV) (ht1 : TH) (t1 : TV) (a2 : Option Addr) (len2 cap2 : Nat) (z2 : List Int) (w : World) (w0 : RP w w.heap.size hd0 q0 ∧ Fit q0 ∧ Lens q0) (w1 : RT w (fun _ => True) ht1 t1 ∧ FitT t1 ∧ LenT t1) (w2 : IsRow .i64 w a2 len2 cap2 z2) :
    Calls Try.prog 3 #[.agg #[.slice hd0.fA q0.funcs.length hd0.fc, .int .i64 q0.mutexes, .slice hd0.cA q0.conds.length hd0.cc, .slice hd0.sA q0.semas.length hd0.sc, .slice hd0.hA q0.chans.length hd0.hc, .slice hd0.xA q0.choices.length hd0.xc, .int .i64 q0.threads], .agg #[.int .i64 t1.state, .int .i64 t1.on, .slice ht1.fA t1.frames.length ht1.fc, .slice ht1.sA t1.stack.length ht1.sc, .int .i64 t1.code], .slice a2 len2 cap2] w fun e w' => e = .returned (.bool true) ∧ Below w.heap.size w w' := by
  obtain ⟨hrp, hfit, hlen⟩ := w0
  obtain ⟨hrt, hfitT, hlenT⟩ := w1
  obtain ⟨l, hri, hfl, hn2⟩ := row_ri w2
  have HRI := Lib.hid hri
  clear hri hfl hn2
  have HR := Lib.hid hrp; have HF := Lib.hid hfit; have HL := Lib.hid hlen; have HT := Lib.hid hrt; have HFT := Lib.hid hfitT; have HLT := Lib.hid hlenT
  clear hrp hfit hlen hrt hfitT hlenT w2
  go_enter Try.func3, Try.ntmps3
  go_wp2_with fail
  refine (good_any hd0 q0 _ w.heap.size ((HR.out.alloc (Nat.le_refl _) _).alloc (by simp) _) (by simp; omega) HF.out).mono ?_
  rintro e w1 hm
  obtain ⟨hg, rfl, hrp, hb⟩ := hm.rp
  have hgl := good_lens q0
  have hgmay := good_may q0 HF.out
  have hgn := good_funcs_len q0
  have hgf := good_few q0
  have hgc := good_code_len q0
  clear hm
  generalize good q0 = g at *
  obtain ⟨fA, fc, cA, cc, sA, sc, hA, hc, xA, xc⟩ := hg
  simp only at hrp ⊢
  have HGMAY := Lib.hid hgmay
  clear hgmay
  have hb0 : Below w.heap.size w ((w.alloc (.cells #[.slice hd0.fA q0.funcs.length hd0.fc, .int .i64 q0.mutexes, .slice hd0.cA q0.conds.length hd0.cc, .slice hd0.sA q0.semas.length hd0.sc, .slice hd0.hA q0.chans.length hd0.hc, .slice hd0.xA q0.choices.length hd0.xc, .int .i64 q0.threads] 26)).alloc (.cells #[.int .i64 t1.state, .int .i64 t1.on, .slice ht1.fA t1.frames.length ht1.fc, .slice ht1.sA t1.stack.length ht1.sc, .int .i64 t1.code] 29)) := ((Below.refl _ _).alloc (Nat.le_refl _) _).alloc (by simp) _
  have hbk : Blk ((w.alloc (.cells #[.slice hd0.fA q0.funcs.length hd0.fc, .int .i64 q0.mutexes, .slice hd0.cA q0.conds.length hd0.cc, .slice hd0.sA q0.semas.length hd0.sc, .slice hd0.hA q0.chans.length hd0.hc, .slice hd0.xA q0.choices.length hd0.xc, .int .i64 q0.threads] 26)).alloc (.cells #[.int .i64 t1.state, .int .i64 t1.on, .slice ht1.fA t1.frames.length ht1.fc, .slice ht1.sA t1.stack.length ht1.sc, .int .i64 t1.code] 29)) (w.heap.size + 1) 29 #[.int .i64 t1.state, .int .i64 t1.on, .slice ht1.fA t1.frames.length ht1.fc, .slice ht1.sA t1.stack.length ht1.sc, .int .i64 t1.code] := by
    simpa using Blk.new (w.alloc (.cells #[.slice hd0.fA q0.funcs.length hd0.fc, .int .i64 q0.mutexes, .slice hd0.cA q0.conds.length hd0.cc, .slice hd0.sA q0.semas.length hd0.sc, .slice hd0.hA q0.chans.length hd0.hc, .slice hd0.xA q0.choices.length hd0.xc, .int .i64 q0.threads] 26)) 29 #[.int .i64 t1.state, .int .i64 t1.on, .slice ht1.fA t1.frames.length ht1.fc, .slice ht1.sA t1.stack.length ht1.sc, .int .i64 t1.code]
  have hbw1 : Below w.heap.size w w1 := hb0.trans (hb.mono (by simp; omega))
  have hbk1 := (hbk.below hb (by simp)).alloc (.cells #[.slice fA g.funcs.length fc, .int .i64 g.mutexes, .slice cA g.conds.length cc, .slice sA g.semas.length sc, .slice hA g.chans.length hc, .slice xA g.choices.length xc, .int .i64 g.threads] 26)
  have hT1 := HT.out.below (hbw1.alloc hbw1.size (.cells #[.slice fA g.funcs.length fc, .int .i64 g.mutexes, .slice cA g.conds.length cc, .slice sA g.semas.length sc, .slice hA g.chans.length hc, .slice xA g.choices.length xc, .int .i64 g.threads] 26))
  have z1 : w.heap.size + 2 ≤ w1.heap.size := by have := hb.size; simpa using this
  have hPB : PB w (w1.alloc (.cells #[.slice fA g.funcs.length fc, .int .i64 g.mutexes, .slice cA g.conds.length cc, .slice sA g.semas.length sc, .slice hA g.chans.length hc, .slice xA g.choices.length xc, .int .i64 g.threads] 26)) w1.heap.size w1.heap.size ⟨fA, fc, cA, cc, sA, sc, hA, hc, xA, xc⟩ g := ⟨Blk.new _ _ _, hrp.alloc (Nat.le_refl _) _, hbw1.alloc hbw1.size _, by simp⟩
  obtain ⟨gb, hgb⟩ : ∃ b, b = w1.heap.size := ⟨_, rfl⟩
  have HPB := Lib.hid hPB; have HB1 := Lib.hid hbk1; have HT1 := Lib.hid hT1; have HGL := Lib.hid hgl; have HGF := Lib.hid hgf; have HGC := Lib.hid hgc
  clear hrp hb hgl hgf hgc hb0 hbk hbw1 hbk1 hT1 hPB
  go_upto_region 2 with fail
  obtain ⟨W2, hW2⟩ : ∃ W, W = w1.alloc (.cells #[.slice fA g.funcs.length fc, .int .i64 g.mutexes, .slice cA g.conds.length cc, .slice sA g.semas.length sc, .slice hA g.chans.length hc, .slice xA g.choices.length xc, .int .i64 g.threads] 26) := ⟨_, rfl⟩
  rw [← hW2] at HPB HB1 HT1 ⊢
  rw [← hgb] at HPB ⊢
  clear hW2
  have p0 : W2.cell? ⟨gb, 0, none⟩ = some (.slice fA g.funcs.length fc) := (HPB.out.pb.cell 0).trans rfl
  have p1 : W2.cell? ⟨gb, 1, none⟩ = some (.int .i64 g.mutexes) := (HPB.out.pb.cell 1).trans rfl
  have p2 : W2.cell? ⟨gb, 2, none⟩ = some (.slice cA g.conds.length cc) := (HPB.out.pb.cell 2).trans rfl
  have p3 : W2.cell? ⟨gb, 3, none⟩ = some (.slice sA g.semas.length sc) := (HPB.out.pb.cell 3).trans rfl
  have p4 : W2.cell? ⟨gb, 4, none⟩ = some (.slice hA g.chans.length hc) := (HPB.out.pb.cell 4).trans rfl
  have p5 : W2.cell? ⟨gb, 5, none⟩ = some (.slice xA g.choices.length xc) := (HPB.out.pb.cell 5).trans rfl
  have p6 : W2.cell? ⟨gb, 6, none⟩ = some (.int .i64 g.threads) := (HPB.out.pb.cell 6).trans rfl
  have y0 : W2.cell? ⟨w.heap.size + 1, 0, none⟩ = some (.int .i64 t1.state) := (HB1.out.cell 0).trans rfl
  have y1 : W2.cell? ⟨w.heap.size + 1, 1, none⟩ = some (.int .i64 t1.on) := (HB1.out.cell 1).trans rfl
  have y2 : W2.cell? ⟨w.heap.size + 1, 2, none⟩ = some (.slice ht1.fA t1.frames.length ht1.fc) := (HB1.out.cell 2).trans rfl
  have y3 : W2.cell? ⟨w.heap.size + 1, 3, none⟩ = some (.slice ht1.sA t1.stack.length ht1.sc) := (HB1.out.cell 3).trans rfl
  have y4 : W2.cell? ⟨w.heap.size + 1, 4, none⟩ = some (.int .i64 t1.code) := (HB1.out.cell 4).trans rfl
  have zg := HPB.out.pb.lt
  clear hgb z1
  go_wp2_with fail
  refine (good4_any ⟨fA, fc, cA, cc, sA, sc, hA, hc, xA, xc⟩ g W2 gb HPB.out.rp HPB.out.hBP HGF.out HGL.out (fun f hf => by have := HGC.out f hf; omega) hgn.1 ht1 t1 _ HT1.out HFT.out HLT.out).mono ?_
  rintro e w3 ⟨ht, rfl, hrt3, hb3⟩
  have hmay := goodT_may HGF.out hgn.1 t1
  have hst : (goodT g t1).state = 0 := rfl
  generalize goodT g t1 = x at *
  obtain ⟨tA, tc, kA, kc⟩ := ht
  simp only at hrt3 ⊢
  have hTB := TB.new hrt3
  have hRX : RT (w3.alloc (.cells #[.int .i64 x.state, .int .i64 x.on, .slice tA x.frames.length tc, .slice kA x.stack.length kc, .int .i64 x.code] 29)) (fun i => i ≠ w3.heap.size) ⟨tA, tc, kA, kc⟩ x := ((hrt3.mono (E := fun i => i < w3.heap.size) (fun i _ hl => hl)).alloc _).mono (fun i hi _ => by omega)
  have HRX := Lib.hid hRX
  have hzx : gb < w3.heap.size ∧ w.heap.size ≤ w3.heap.size := by have h1 := hb3.size; have h2 := HPB.out.bel.size; have h3 := HPB.out.pb.lt; exact ⟨by omega, by omega⟩
  have HZX := Lib.hid hzx
  clear hRX hzx
  have hPB3 := (HPB.out.below hb3).below ((Below.refl _ _).alloc (Nat.le_refl _) (.cells #[.int .i64 x.state, .int .i64 x.on, .slice tA x.frames.length tc, .slice kA x.stack.length kc, .int .i64 x.code] 29))
  have hlx := lenT_may hmay
  obtain ⟨xb, hxb⟩ : ∃ b, b = w3.heap.size := ⟨_, rfl⟩
  have HTB := Lib.hid hTB; have HPB3 := Lib.hid hPB3; have HMAY := Lib.hid hmay; have HST := Lib.hid hst
  clear hTB hPB3 hmay hst hrt3 hb3 HPB p0 p1 p2 p3 p4 p5 p6 y0 y1 y2 y3 y4 zg HB1 HT1
  go_upto_region 3 with fail
  obtain ⟨W3, hW3⟩ : ∃ W, W = w3.alloc (.cells #[.int .i64 x.state, .int .i64 x.on, .slice tA x.frames.length tc, .slice kA x.stack.length kc, .int .i64 x.code] 29) := ⟨_, rfl⟩
  rw [← hW3] at HTB HPB3 HRX ⊢
  rw [← hxb] at HTB HRX HZX ⊢
  clear hW3 hxb
  have hlt := lensT_may HGF.out HMAY.out
  have hne9 : x.state ≠ 9 := by rw [HST.out]; decide
  have HLX := Lib.hid hlx; have HLXT := Lib.hid hlt; have HNE := Lib.hid hne9
  clear hlx hlt hne9
  have x0 : W3.cell? ⟨xb, 0, none⟩ = some (.int .i64 x.state) := (HTB.out.tb.cell 0).trans rfl
  have x1 : W3.cell? ⟨xb, 1, none⟩ = some (.int .i64 x.on) := (HTB.out.tb.cell 1).trans rfl
  have x2 : W3.cell? ⟨xb, 2, none⟩ = some (.slice tA x.frames.length tc) := (HTB.out.tb.cell 2).trans rfl
  have x3 : W3.cell? ⟨xb, 3, none⟩ = some (.slice kA x.stack.length kc) := (HTB.out.tb.cell 3).trans rfl
  have x4 : W3.cell? ⟨xb, 4, none⟩ = some (.int .i64 x.code) := (HTB.out.tb.cell 4).trans rfl
  have zx := HTB.out.tb.lt
  have hxw : w.heap.size ≤ xb := HZX.out.2
  have hgx : gb < xb := HZX.out.1
  have hst0 : StI w W3 gb xb ⟨fA, fc, cA, cc, sA, sc, hA, hc, xA, xc⟩ g ⟨tA, tc, kA, kc⟩ x := ⟨HPB3.out, HTB.out.tb, HRX.out, HMAY.out, HST.out⟩
  have HS0 := Lib.hid hst0
  clear hst0 x0 x1 x2 x3 x4 zx HTB HPB3 HRX HMAY HST HLX HLXT HNE
  go_wp2_with fail
  go_loopw [9] (fun s9 wr => ∃ (k : Nat) (hx : TH) (x : TV), k ≤ 40 ∧ s9 = .int .i64 (k : Int) ∧ Hid (StI w wr gb xb ⟨fA, fc, cA, cc, sA, sc, hA, hc, xA, xc⟩ g hx x)) (fun s9 _ => 40 - (intOf s9).toNat)
  case atStart => exact ⟨0, ⟨tA, tc, kA, kc⟩, x, by omega, rfl, HS0⟩
  case round =>
    clear HS0
    obtain ⟨k, ⟨tA, tc, kA, kc⟩, x, hk, rfl, HSI⟩ := hrel
    by_cases hlt : k < 40
    · have hk0 : (0 : Int) ≤ (k : Int) := by omega
      have hk4 : (k : Int) < 40 := by omega
      have hgm := HGMAY.out
      have hne9 : x.state ≠ 9 := by rw [HSI.out.st]; decide
      have hlx := lensT_may HGF.out HSI.out.may
      have haf := step_after hgm HSI.out.may hne9
      have hst := fun (X : World) (hX : Below wr.heap.size wr X) => vstep_any ⟨fA, fc, cA, cc, sA, sc, hA, hc, xA, xc⟩ g ⟨tA, tc, kA, kc⟩ x X gb _ ((HSI.out.below hX).pb.rp) ((HSI.out.below hX).pb.hBP) ((HSI.out.below hX).rt) hgm HGL.out HSI.out.may hne9
      have hds := fun (X : World) (hX : Below wr.heap.size wr X) (h9 : TH) (E : Nat → Prop) (hr : RT X E h9 x) => refStep5_any ⟨fA, fc, cA, cc, sA, sc, hA, hc, xA, xc⟩ g h9 x X gb E ((HSI.out.below hX).pb.rp) ((HSI.out.below hX).pb.hBP) hr hgm HSI.out.may hne9
      obtain ⟨y, rq, hyq⟩ : ∃ y rq, stepV g x = (y, rq) := ⟨_, _, rfl⟩
      rw [hyq] at haf hst hds
      simp only at haf hst hds
      have hym : mayT g y = true ∧ LensT y ∧ LenT y := by
        rcases haf with ⟨c, hc, e⟩ | ⟨_, h2, _, _⟩
        · injection e with e1 e2
          rw [e1]
          exact ⟨dead_may hc, dead_lens, ⟨by simp, by simp, by simp⟩⟩
        · have h2 : mayT g y = true := h2
          have hl := lensT_may HGF.out h2
          exact ⟨h2, hl, ⟨by have := hl.frames; omega, by have := hl.stack; omega, fun f hf => by have := hl.locals f hf; omega⟩⟩
      have hmy := fun (X : World) (hX : Below wr.heap.size wr X) (ha : TH) (E : Nat → Prop) (hr : RT X E ha y) => refMay_any ⟨fA, fc, cA, cc, sA, sc, hA, hc, xA, xc⟩ g X gb ((HSI.out.below hX).pb.rp) ((HSI.out.below hX).pb.hBP) HGL.out ha y E hr hym.2.2
      rw [hym.1] at hmy
      have HAF := Lib.hid haf; have HSTP := Lib.hid hst; have HDS := Lib.hid hds; have HYM := Lib.hid hym; have HLX := Lib.hid hlx; have HMY := Lib.hid hmy
      have hcl := refClone_any ⟨tA, tc, kA, kc⟩ x wr _ HSI.out.rt hlx
      have HCL := Lib.hid hcl
      clear hgm hne9 hlx haf hst hds hyq hym hmy hcl
      have x0 : wr.cell? ⟨xb, 0, none⟩ = some (.int .i64 x.state) := (HSI.out.tb.cell 0).trans rfl
      have x1 : wr.cell? ⟨xb, 1, none⟩ = some (.int .i64 x.on) := (HSI.out.tb.cell 1).trans rfl
      have x2 : wr.cell? ⟨xb, 2, none⟩ = some (.slice tA x.frames.length tc) := (HSI.out.tb.cell 2).trans rfl
      have x3 : wr.cell? ⟨xb, 3, none⟩ = some (.slice kA x.stack.length kc) := (HSI.out.tb.cell 3).trans rfl
      have x4 : wr.cell? ⟨xb, 4, none⟩ = some (.int .i64 x.code) := (HSI.out.tb.cell 4).trans rfl
      go_wp2_with fail
      refine HCL.out.mono ?_
      rintro e w1 ⟨cA2, cc2, qA, qc, ts, rfl, hot, hb1⟩
      obtain ⟨cb, hcb⟩ : ∃ b, b = w1.heap.size := ⟨_, rfl⟩
      obtain ⟨W1, hW1⟩ : ∃ W, W = w1.alloc (.cells #[.int .i64 x.state, .int .i64 x.on, .slice cA2 x.frames.length cc2, .slice qA x.stack.length qc, .int .i64 x.code] 29) := ⟨_, rfl⟩
      have ha1 : Below w1.heap.size w1 W1 := by rw [hW1]; exact (Below.refl _ _).alloc (Nat.le_refl _) _
      have kc1 : Blk W1 cb 29 #[.int .i64 x.state, .int .i64 x.on, .slice cA2 x.frames.length cc2, .slice qA x.stack.length qc, .int .i64 x.code] := by rw [hW1, hcb]; exact Blk.new _ _ _
      have hbr1 := hb1.trans (ha1.mono hb1.size)
      have hrc := hot.rt.below ha1
      have HRC := Lib.hid hrc; have KC := Lib.hid kc1; have HB1 := Lib.hid hbr1; have HS1 := Lib.hid (HSI.out.below hbr1); have HCB := Lib.hid hcb; have HW1 := Lib.hid hW1
      clear hot hb1 hcb hW1 ha1 kc1 hbr1 hrc HCL x0 x1 x2 x3 x4
      go_upto_region 7 with fail
      rw [← HW1.out, ← HCB.out]
      clear HW1 HCB
      have p0 : W1.cell? ⟨gb, 0, none⟩ = some (.slice fA g.funcs.length fc) := (HS1.out.pb.pb.cell 0).trans rfl
      have p1 : W1.cell? ⟨gb, 1, none⟩ = some (.int .i64 g.mutexes) := (HS1.out.pb.pb.cell 1).trans rfl
      have p2 : W1.cell? ⟨gb, 2, none⟩ = some (.slice cA g.conds.length cc) := (HS1.out.pb.pb.cell 2).trans rfl
      have p3 : W1.cell? ⟨gb, 3, none⟩ = some (.slice sA g.semas.length sc) := (HS1.out.pb.pb.cell 3).trans rfl
      have p4 : W1.cell? ⟨gb, 4, none⟩ = some (.slice hA g.chans.length hc) := (HS1.out.pb.pb.cell 4).trans rfl
      have p5 : W1.cell? ⟨gb, 5, none⟩ = some (.slice xA g.choices.length xc) := (HS1.out.pb.pb.cell 5).trans rfl
      have p6 : W1.cell? ⟨gb, 6, none⟩ = some (.int .i64 g.threads) := (HS1.out.pb.pb.cell 6).trans rfl
      have x0 : W1.cell? ⟨xb, 0, none⟩ = some (.int .i64 x.state) := (HS1.out.tb.cell 0).trans rfl
      have x1 : W1.cell? ⟨xb, 1, none⟩ = some (.int .i64 x.on) := (HS1.out.tb.cell 1).trans rfl
      have x2 : W1.cell? ⟨xb, 2, none⟩ = some (.slice tA x.frames.length tc) := (HS1.out.tb.cell 2).trans rfl
      have x3 : W1.cell? ⟨xb, 3, none⟩ = some (.slice kA x.stack.length kc) := (HS1.out.tb.cell 3).trans rfl
      have x4 : W1.cell? ⟨xb, 4, none⟩ = some (.int .i64 x.code) := (HS1.out.tb.cell 4).trans rfl
      go_wp2_with fail
      refine (HSTP.out _ HB1.out).mono ?_
      rintro e w2 ⟨⟨aA, ac, uA, uc⟩, rfl, hra, hb2⟩
      try simp only at hra
      obtain ⟨ab, hab⟩ : ∃ b, b = w2.heap.size := ⟨_, rfl⟩
      obtain ⟨W2', hW2⟩ : ∃ W, W = (w2.alloc (.cells #[.int .i64 y.state, .int .i64 y.on, .slice aA y.frames.length ac, .slice uA y.stack.length uc, .int .i64 y.code] 29)).alloc (.cells #[.int .i64 rq.kind, .int .i64 rq.a, .int .i64 rq.v] 34) := ⟨_, rfl⟩
      have ha2 : Below w2.heap.size w2 W2' := by rw [hW2]; exact ((Below.refl _ _).alloc (Nat.le_refl _) _).alloc (by simp) _
      have kaa : Blk W2' ab 29 #[.int .i64 y.state, .int .i64 y.on, .slice aA y.frames.length ac, .slice uA y.stack.length uc, .int .i64 y.code] := by rw [hW2, hab]; exact (Blk.new _ _ _).alloc _
      have kqq : Blk W2' (ab + 1) 34 #[.int .i64 rq.kind, .int .i64 rq.a, .int .i64 rq.v] := by rw [hW2, hab]; simpa using Blk.new (w2.alloc (.cells #[.int .i64 y.state, .int .i64 y.on, .slice aA y.frames.length ac, .slice uA y.stack.length uc, .int .i64 y.code] 29)) 34 #[.int .i64 rq.kind, .int .i64 rq.a, .int .i64 rq.v]
      have hb12 := hb2.trans (ha2.mono hb2.size)
      have HRA := Lib.hid ((hra.below ha2).mono (E := fun i => wr.heap.size ≤ i) (fun i hi _ => by have := HB1.out.size; omega)); have KA := Lib.hid kaa; have KQ := Lib.hid kqq; have HB2 := Lib.hid (HB1.out.trans (hb12.mono HB1.out.size)); have HS2 := Lib.hid (HS1.out.below hb12); have KC2 := Lib.hid (KC.out.below hb12 KC.out.lt); have HRC2 := Lib.hid (HRC.out.below hb12); have HAB := Lib.hid hab; have HW2 := Lib.hid hW2
      clear hra hb2 hab hW2 ha2 kaa kqq hb12 HSTP KC HRC HS1 x0 x1 x2 x3 x4 p0 p1 p2 p3 p4 p5 p6
      go_upto_region 8 with fail
      rw [← HW2.out, ← HAB.out]
      clear HW2 HAB
      have p0 : W2'.cell? ⟨gb, 0, none⟩ = some (.slice fA g.funcs.length fc) := (HS2.out.pb.pb.cell 0).trans rfl
      have p1 : W2'.cell? ⟨gb, 1, none⟩ = some (.int .i64 g.mutexes) := (HS2.out.pb.pb.cell 1).trans rfl
      have p2 : W2'.cell? ⟨gb, 2, none⟩ = some (.slice cA g.conds.length cc) := (HS2.out.pb.pb.cell 2).trans rfl
      have p3 : W2'.cell? ⟨gb, 3, none⟩ = some (.slice sA g.semas.length sc) := (HS2.out.pb.pb.cell 3).trans rfl
      have p4 : W2'.cell? ⟨gb, 4, none⟩ = some (.slice hA g.chans.length hc) := (HS2.out.pb.pb.cell 4).trans rfl
      have p5 : W2'.cell? ⟨gb, 5, none⟩ = some (.slice xA g.choices.length xc) := (HS2.out.pb.pb.cell 5).trans rfl
      have p6 : W2'.cell? ⟨gb, 6, none⟩ = some (.int .i64 g.threads) := (HS2.out.pb.pb.cell 6).trans rfl
      have c0 : W2'.cell? ⟨cb, 0, none⟩ = some (.int .i64 x.state) := (KC2.out.cell 0).trans rfl
      have c1 : W2'.cell? ⟨cb, 1, none⟩ = some (.int .i64 x.on) := (KC2.out.cell 1).trans rfl
      have c2 : W2'.cell? ⟨cb, 2, none⟩ = some (.slice cA2 x.frames.length cc2) := (KC2.out.cell 2).trans rfl
      have c3 : W2'.cell? ⟨cb, 3, none⟩ = some (.slice qA x.stack.length qc) := (KC2.out.cell 3).trans rfl
      have c4 : W2'.cell? ⟨cb, 4, none⟩ = some (.int .i64 x.code) := (KC2.out.cell 4).trans rfl
      go_wp2_with fail
      refine (HDS.out _ HB2.out ⟨cA2, cc2, qA, qc⟩ _ HRC2.out).mono ?_
      rintro e w3 ⟨⟨bA, bc, vA, vc⟩, rfl, hrb, hb3⟩
      try simp only at hrb
      obtain ⟨bb, hbb⟩ : ∃ b, b = w3.heap.size := ⟨_, rfl⟩
      obtain ⟨W4, hW4⟩ : ∃ W, W = (w3.alloc (.cells #[.int .i64 y.state, .int .i64 y.on, .slice bA y.frames.length bc, .slice vA y.stack.length vc, .int .i64 y.code] 29)).alloc (.cells #[.int .i64 rq.kind, .int .i64 rq.a, .int .i64 rq.v] 37) := ⟨_, rfl⟩
      have ha3 : Below w3.heap.size w3 W4 := by rw [hW4]; exact ((Below.refl _ _).alloc (Nat.le_refl _) _).alloc (by simp) _
      have kbb : Blk W4 bb 29 #[.int .i64 y.state, .int .i64 y.on, .slice bA y.frames.length bc, .slice vA y.stack.length vc, .int .i64 y.code] := by rw [hW4, hbb]; exact (Blk.new _ _ _).alloc _
      have krr : Blk W4 (bb + 1) 37 #[.int .i64 rq.kind, .int .i64 rq.a, .int .i64 rq.v] := by rw [hW4, hbb]; simpa using Blk.new (w3.alloc (.cells #[.int .i64 y.state, .int .i64 y.on, .slice bA y.frames.length bc, .slice vA y.stack.length vc, .int .i64 y.code] 29)) 37 #[.int .i64 rq.kind, .int .i64 rq.a, .int .i64 rq.v]
      have hb24 := hb3.trans (ha3.mono hb3.size)
      have HRB := Lib.hid ((hrb.below ha3).mono (E := fun i => wr.heap.size ≤ i) (fun i hi _ => by have := HB2.out.size; rcases hi with ⟨hi, _⟩ | hi; exact hi; omega)); have KB := Lib.hid kbb; have KR := Lib.hid krr; have HB4 := Lib.hid (HB2.out.trans (hb24.mono HB2.out.size)); have HS4 := Lib.hid (HS2.out.below hb24); have KC4 := Lib.hid (KC2.out.below hb24 KC2.out.lt); have HRC4 := Lib.hid (HRC2.out.below hb24); have KA4 := Lib.hid (KA.out.below hb24 KA.out.lt); have KQ4 := Lib.hid (KQ.out.below hb24 KQ.out.lt); have HRA4 := Lib.hid (HRA.out.below hb24); have HBB := Lib.hid hbb; have HW4 := Lib.hid hW4; have HBXX := Lib.hid (show xb < bb from by have h1 := hb3.size; have h2 := HB2.out.size; have h3 := HSI.out.tb.lt; omega)
      clear hrb hb3 hbb hW4 ha3 kbb krr hb24 HDS KC2 HRC2 HS2 KA KQ HRA c0 c1 c2 c3 c4 p0 p1 p2 p3 p4 p5 p6
      go_upto_region 9 with fail
      rw [← HW4.out, ← HBB.out]
      clear HW4 HBB
      have p0 : W4.cell? ⟨gb, 0, none⟩ = some (.slice fA g.funcs.length fc) := (HS4.out.pb.pb.cell 0).trans rfl
      have p1 : W4.cell? ⟨gb, 1, none⟩ = some (.int .i64 g.mutexes) := (HS4.out.pb.pb.cell 1).trans rfl
      have p2 : W4.cell? ⟨gb, 2, none⟩ = some (.slice cA g.conds.length cc) := (HS4.out.pb.pb.cell 2).trans rfl
      have p3 : W4.cell? ⟨gb, 3, none⟩ = some (.slice sA g.semas.length sc) := (HS4.out.pb.pb.cell 3).trans rfl
      have p4 : W4.cell? ⟨gb, 4, none⟩ = some (.slice hA g.chans.length hc) := (HS4.out.pb.pb.cell 4).trans rfl
      have p5 : W4.cell? ⟨gb, 5, none⟩ = some (.slice xA g.choices.length xc) := (HS4.out.pb.pb.cell 5).trans rfl
      have p6 : W4.cell? ⟨gb, 6, none⟩ = some (.int .i64 g.threads) := (HS4.out.pb.pb.cell 6).trans rfl
      have a0 : W4.cell? ⟨ab, 0, none⟩ = some (.int .i64 y.state) := (KA4.out.cell 0).trans rfl
      have a1 : W4.cell? ⟨ab, 1, none⟩ = some (.int .i64 y.on) := (KA4.out.cell 1).trans rfl
      have a2' : W4.cell? ⟨ab, 2, none⟩ = some (.slice aA y.frames.length ac) := (KA4.out.cell 2).trans rfl
      have a3 : W4.cell? ⟨ab, 3, none⟩ = some (.slice uA y.stack.length uc) := (KA4.out.cell 3).trans rfl
      have a4 : W4.cell? ⟨ab, 4, none⟩ = some (.int .i64 y.code) := (KA4.out.cell 4).trans rfl
      go_wp2_with fail
      refine (HMY.out _ HB4.out ⟨aA, ac, uA, uc⟩ _ HRA4.out).mono ?_
      rintro e w5 ⟨rfl, hb5⟩
      have HB5 := Lib.hid (HB4.out.trans (hb5.mono HB4.out.size)); have HS5 := Lib.hid (HS4.out.below hb5); have KC5 := Lib.hid (KC4.out.below hb5 KC4.out.lt); have HRC5 := Lib.hid (HRC4.out.below hb5); have KA5 := Lib.hid (KA4.out.below hb5 KA4.out.lt); have KQ5 := Lib.hid (KQ4.out.below hb5 KQ4.out.lt); have HRA5 := Lib.hid (HRA4.out.below hb5); have HRB5 := Lib.hid (HRB.out.below hb5); have KB5 := Lib.hid (KB.out.below hb5 KB.out.lt); have KR5 := Lib.hid (KR.out.below hb5 KR.out.lt)
      clear hb5 HS4 KC4 HRC4 KA4 KQ4 HRA4 HRB KB KR a0 a1 a2' a3 a4 p0 p1 p2 p3 p4 p5 p6 HMY
      have hke : ∀ W' w4, Below w5.heap.size w5 W' → Below W'.heap.size W' w4 → Hid (Below w5.heap.size w5 w4) ∧ (w4.cell? ⟨ab, 0, none⟩ = some (.int .i64 y.state) ∧ w4.cell? ⟨ab, 1, none⟩ = some (.int .i64 y.on) ∧ w4.cell? ⟨ab, 2, none⟩ = some (.slice aA y.frames.length ac) ∧ w4.cell? ⟨ab, 3, none⟩ = some (.slice uA y.stack.length uc) ∧ w4.cell? ⟨ab, 4, none⟩ = some (.int .i64 y.code) ∧ w4.cell? ⟨ab + 1, 0, none⟩ = some (.int .i64 rq.kind) ∧ w4.cell? ⟨ab + 1, 1, none⟩ = some (.int .i64 rq.a) ∧ w4.cell? ⟨ab + 1, 2, none⟩ = some (.int .i64 rq.v) ∧ w4.cell? ⟨bb, 0, none⟩ = some (.int .i64 y.state) ∧ w4.cell? ⟨bb, 1, none⟩ = some (.int .i64 y.on) ∧ w4.cell? ⟨bb, 2, none⟩ = some (.slice bA y.frames.length bc) ∧ w4.cell? ⟨bb, 3, none⟩ = some (.slice vA y.stack.length vc) ∧ w4.cell? ⟨bb, 4, none⟩ = some (.int .i64 y.code) ∧ w4.cell? ⟨bb + 1, 0, none⟩ = some (.int .i64 rq.kind) ∧ w4.cell? ⟨bb + 1, 1, none⟩ = some (.int .i64 rq.a) ∧ w4.cell? ⟨bb + 1, 2, none⟩ = some (.int .i64 rq.v) ∧ w4.cell? ⟨xb, 0, none⟩ = some (.int .i64 x.state) ∧ w4.cell? ⟨xb, 1, none⟩ = some (.int .i64 x.on) ∧ w4.cell? ⟨xb, 2, none⟩ = some (.slice tA x.frames.length tc) ∧ w4.cell? ⟨xb, 3, none⟩ = some (.slice kA x.stack.length kc) ∧ w4.cell? ⟨xb, 4, none⟩ = some (.int .i64 x.code) ∧ w4.cell? ⟨cb, 0, none⟩ = some (.int .i64 x.state) ∧ w4.cell? ⟨cb, 1, none⟩ = some (.int .i64 x.on) ∧ w4.cell? ⟨cb, 2, none⟩ = some (.slice cA2 x.frames.length cc2) ∧ w4.cell? ⟨cb, 3, none⟩ = some (.slice qA x.stack.length qc) ∧ w4.cell? ⟨cb, 4, none⟩ = some (.int .i64 x.code)) := fun W' w4 h1 h2 => by
        have hb := h1.trans (h2.mono h1.size)
        have k0 := KA5.out.below hb KA5.out.lt
        have k1 := KQ5.out.below hb KQ5.out.lt
        have k2 := KB5.out.below hb KB5.out.lt
        have k3 := KR5.out.below hb KR5.out.lt
        have k4 := HS5.out.tb.below hb HS5.out.tb.lt
        have k5 := KC5.out.below hb KC5.out.lt
        exact ⟨Lib.hid hb, (k0.cell 0).trans rfl, (k0.cell 1).trans rfl, (k0.cell 2).trans rfl, (k0.cell 3).trans rfl, (k0.cell 4).trans rfl, (k1.cell 0).trans rfl, (k1.cell 1).trans rfl, (k1.cell 2).trans rfl, (k2.cell 0).trans rfl, (k2.cell 1).trans rfl, (k2.cell 2).trans rfl, (k2.cell 3).trans rfl, (k2.cell 4).trans rfl, (k3.cell 0).trans rfl, (k3.cell 1).trans rfl, (k3.cell 2).trans rfl, (k4.cell 0).trans rfl, (k4.cell 1).trans rfl, (k4.cell 2).trans rfl, (k4.cell 3).trans rfl, (k4.cell 4).trans rfl, (k5.cell 0).trans rfl, (k5.cell 1).trans rfl, (k5.cell 2).trans rfl, (k5.cell 3).trans rfl, (k5.cell 4).trans rfl⟩
      have hc1 : ∀ W', Below w5.heap.size w5 W' → Calls Try.prog 15 #[.agg #[.int .i64 y.state, .int .i64 y.on, .slice aA y.frames.length ac, .slice uA y.stack.length uc, .int .i64 y.code], .agg #[.int .i64 y.state, .int .i64 y.on, .slice bA y.frames.length bc, .slice vA y.stack.length vc, .int .i64 y.code]] W' fun e w4 => e = .returned (.bool true) ∧ Hid (Below w5.heap.size w5 w4) ∧ (w4.cell? ⟨ab, 0, none⟩ = some (.int .i64 y.state) ∧ w4.cell? ⟨ab, 1, none⟩ = some (.int .i64 y.on) ∧ w4.cell? ⟨ab, 2, none⟩ = some (.slice aA y.frames.length ac) ∧ w4.cell? ⟨ab, 3, none⟩ = some (.slice uA y.stack.length uc) ∧ w4.cell? ⟨ab, 4, none⟩ = some (.int .i64 y.code) ∧ w4.cell? ⟨ab + 1, 0, none⟩ = some (.int .i64 rq.kind) ∧ w4.cell? ⟨ab + 1, 1, none⟩ = some (.int .i64 rq.a) ∧ w4.cell? ⟨ab + 1, 2, none⟩ = some (.int .i64 rq.v) ∧ w4.cell? ⟨bb, 0, none⟩ = some (.int .i64 y.state) ∧ w4.cell? ⟨bb, 1, none⟩ = some (.int .i64 y.on) ∧ w4.cell? ⟨bb, 2, none⟩ = some (.slice bA y.frames.length bc) ∧ w4.cell? ⟨bb, 3, none⟩ = some (.slice vA y.stack.length vc) ∧ w4.cell? ⟨bb, 4, none⟩ = some (.int .i64 y.code) ∧ w4.cell? ⟨bb + 1, 0, none⟩ = some (.int .i64 rq.kind) ∧ w4.cell? ⟨bb + 1, 1, none⟩ = some (.int .i64 rq.a) ∧ w4.cell? ⟨bb + 1, 2, none⟩ = some (.int .i64 rq.v) ∧ w4.cell? ⟨xb, 0, none⟩ = some (.int .i64 x.state) ∧ w4.cell? ⟨xb, 1, none⟩ = some (.int .i64 x.on) ∧ w4.cell? ⟨xb, 2, none⟩ = some (.slice tA x.frames.length tc) ∧ w4.cell? ⟨xb, 3, none⟩ = some (.slice kA x.stack.length kc) ∧ w4.cell? ⟨xb, 4, none⟩ = some (.int .i64 x.code) ∧ w4.cell? ⟨cb, 0, none⟩ = some (.int .i64 x.state) ∧ w4.cell? ⟨cb, 1, none⟩ = some (.int .i64 x.on) ∧ w4.cell? ⟨cb, 2, none⟩ = some (.slice cA2 x.frames.length cc2) ∧ w4.cell? ⟨cb, 3, none⟩ = some (.slice qA x.stack.length qc) ∧ w4.cell? ⟨cb, 4, none⟩ = some (.int .i64 x.code)) := fun W' hb =>
        (refSame_yes ⟨aA, ac, uA, uc⟩ ⟨bA, bc, vA, vc⟩ y W' _ _ (HRA5.out.below hb) (HRB5.out.below hb) HYM.out.2.1).mono fun e w4 hq => ⟨hq.1, hke W' w4 hb hq.2⟩
      have hc2 : ∀ W', Below w5.heap.size w5 W' → Calls Try.prog 15 #[.agg #[.int .i64 x.state, .int .i64 x.on, .slice tA x.frames.length tc, .slice kA x.stack.length kc, .int .i64 x.code], .agg #[.int .i64 x.state, .int .i64 x.on, .slice cA2 x.frames.length cc2, .slice qA x.stack.length qc, .int .i64 x.code]] W' fun e w4 => e = .returned (.bool true) ∧ Hid (Below w5.heap.size w5 w4) ∧ (w4.cell? ⟨ab, 0, none⟩ = some (.int .i64 y.state) ∧ w4.cell? ⟨ab, 1, none⟩ = some (.int .i64 y.on) ∧ w4.cell? ⟨ab, 2, none⟩ = some (.slice aA y.frames.length ac) ∧ w4.cell? ⟨ab, 3, none⟩ = some (.slice uA y.stack.length uc) ∧ w4.cell? ⟨ab, 4, none⟩ = some (.int .i64 y.code) ∧ w4.cell? ⟨ab + 1, 0, none⟩ = some (.int .i64 rq.kind) ∧ w4.cell? ⟨ab + 1, 1, none⟩ = some (.int .i64 rq.a) ∧ w4.cell? ⟨ab + 1, 2, none⟩ = some (.int .i64 rq.v) ∧ w4.cell? ⟨bb, 0, none⟩ = some (.int .i64 y.state) ∧ w4.cell? ⟨bb, 1, none⟩ = some (.int .i64 y.on) ∧ w4.cell? ⟨bb, 2, none⟩ = some (.slice bA y.frames.length bc) ∧ w4.cell? ⟨bb, 3, none⟩ = some (.slice vA y.stack.length vc) ∧ w4.cell? ⟨bb, 4, none⟩ = some (.int .i64 y.code) ∧ w4.cell? ⟨bb + 1, 0, none⟩ = some (.int .i64 rq.kind) ∧ w4.cell? ⟨bb + 1, 1, none⟩ = some (.int .i64 rq.a) ∧ w4.cell? ⟨bb + 1, 2, none⟩ = some (.int .i64 rq.v) ∧ w4.cell? ⟨xb, 0, none⟩ = some (.int .i64 x.state) ∧ w4.cell? ⟨xb, 1, none⟩ = some (.int .i64 x.on) ∧ w4.cell? ⟨xb, 2, none⟩ = some (.slice tA x.frames.length tc) ∧ w4.cell? ⟨xb, 3, none⟩ = some (.slice kA x.stack.length kc) ∧ w4.cell? ⟨xb, 4, none⟩ = some (.int .i64 x.code) ∧ w4.cell? ⟨cb, 0, none⟩ = some (.int .i64 x.state) ∧ w4.cell? ⟨cb, 1, none⟩ = some (.int .i64 x.on) ∧ w4.cell? ⟨cb, 2, none⟩ = some (.slice cA2 x.frames.length cc2) ∧ w4.cell? ⟨cb, 3, none⟩ = some (.slice qA x.stack.length qc) ∧ w4.cell? ⟨cb, 4, none⟩ = some (.int .i64 x.code)) := fun W' hb =>
        (refSame_yes ⟨tA, tc, kA, kc⟩ ⟨cA2, cc2, qA, qc⟩ x W' _ _ (HS5.out.rt.below hb) (HRC5.out.below hb) HLX.out).mono fun e w4 hq => ⟨hq.1, hke W' w4 hb hq.2⟩
      have hc3 : ∀ W', Below w5.heap.size w5 W' → Calls Try.prog 16 #[.agg #[.int .i64 rq.kind, .int .i64 rq.a, .int .i64 rq.v]] W' fun e w4 => e = .returned (.agg #[.int .i64 rq.kind, .int .i64 rq.a, .int .i64 rq.v]) ∧ Hid (Below w5.heap.size w5 w4) ∧ (w4.cell? ⟨ab, 0, none⟩ = some (.int .i64 y.state) ∧ w4.cell? ⟨ab, 1, none⟩ = some (.int .i64 y.on) ∧ w4.cell? ⟨ab, 2, none⟩ = some (.slice aA y.frames.length ac) ∧ w4.cell? ⟨ab, 3, none⟩ = some (.slice uA y.stack.length uc) ∧ w4.cell? ⟨ab, 4, none⟩ = some (.int .i64 y.code) ∧ w4.cell? ⟨ab + 1, 0, none⟩ = some (.int .i64 rq.kind) ∧ w4.cell? ⟨ab + 1, 1, none⟩ = some (.int .i64 rq.a) ∧ w4.cell? ⟨ab + 1, 2, none⟩ = some (.int .i64 rq.v) ∧ w4.cell? ⟨bb, 0, none⟩ = some (.int .i64 y.state) ∧ w4.cell? ⟨bb, 1, none⟩ = some (.int .i64 y.on) ∧ w4.cell? ⟨bb, 2, none⟩ = some (.slice bA y.frames.length bc) ∧ w4.cell? ⟨bb, 3, none⟩ = some (.slice vA y.stack.length vc) ∧ w4.cell? ⟨bb, 4, none⟩ = some (.int .i64 y.code) ∧ w4.cell? ⟨bb + 1, 0, none⟩ = some (.int .i64 rq.kind) ∧ w4.cell? ⟨bb + 1, 1, none⟩ = some (.int .i64 rq.a) ∧ w4.cell? ⟨bb + 1, 2, none⟩ = some (.int .i64 rq.v) ∧ w4.cell? ⟨xb, 0, none⟩ = some (.int .i64 x.state) ∧ w4.cell? ⟨xb, 1, none⟩ = some (.int .i64 x.on) ∧ w4.cell? ⟨xb, 2, none⟩ = some (.slice tA x.frames.length tc) ∧ w4.cell? ⟨xb, 3, none⟩ = some (.slice kA x.stack.length kc) ∧ w4.cell? ⟨xb, 4, none⟩ = some (.int .i64 x.code) ∧ w4.cell? ⟨cb, 0, none⟩ = some (.int .i64 x.state) ∧ w4.cell? ⟨cb, 1, none⟩ = some (.int .i64 x.on) ∧ w4.cell? ⟨cb, 2, none⟩ = some (.slice cA2 x.frames.length cc2) ∧ w4.cell? ⟨cb, 3, none⟩ = some (.slice qA x.stack.length qc) ∧ w4.cell? ⟨cb, 4, none⟩ = some (.int .i64 x.code)) := fun W' hb =>
        (as_any5 _ _ _ W').mono fun e w4 hq => ⟨hq.1, hke W' w4 hb hq.2⟩
      have h26 := (hke w5 w5 (Below.refl _ _) (Below.refl _ _)).2
      have HC1 := Lib.hid hc1; have HC2 := Lib.hid hc2; have HC3 := Lib.hid hc3
      have HBA := Lib.hid (Below.refl w5.heap.size w5)
      have G0 := Lib.hid h26
      clear hc1 hc2 hc3 hke h26
      go_upto_region 10 with fail
      obtain ⟨a0, a1, a2', a3, a4, q0, q1, q2, b0, b1, b2, b3, b4, r0, r1, r2, x0, x1, x2, x3, x4, c0, c1, c2, c3, c4⟩ := G0.out
      go_region_held3 (fun w' => w'.cell? ⟨ab, 0, none⟩ = some (.int .i64 y.state) ∧ w'.cell? ⟨ab, 1, none⟩ = some (.int .i64 y.on) ∧ w'.cell? ⟨ab, 2, none⟩ = some (.slice aA y.frames.length ac) ∧ w'.cell? ⟨ab, 3, none⟩ = some (.slice uA y.stack.length uc) ∧ w'.cell? ⟨ab, 4, none⟩ = some (.int .i64 y.code) ∧ w'.cell? ⟨ab + 1, 0, none⟩ = some (.int .i64 rq.kind) ∧ w'.cell? ⟨ab + 1, 1, none⟩ = some (.int .i64 rq.a) ∧ w'.cell? ⟨ab + 1, 2, none⟩ = some (.int .i64 rq.v) ∧ w'.cell? ⟨bb, 0, none⟩ = some (.int .i64 y.state) ∧ w'.cell? ⟨bb, 1, none⟩ = some (.int .i64 y.on) ∧ w'.cell? ⟨bb, 2, none⟩ = some (.slice bA y.frames.length bc) ∧ w'.cell? ⟨bb, 3, none⟩ = some (.slice vA y.stack.length vc) ∧ w'.cell? ⟨bb, 4, none⟩ = some (.int .i64 y.code) ∧ w'.cell? ⟨bb + 1, 0, none⟩ = some (.int .i64 rq.kind) ∧ w'.cell? ⟨bb + 1, 1, none⟩ = some (.int .i64 rq.a) ∧ w'.cell? ⟨bb + 1, 2, none⟩ = some (.int .i64 rq.v) ∧ w'.cell? ⟨xb, 0, none⟩ = some (.int .i64 x.state) ∧ w'.cell? ⟨xb, 1, none⟩ = some (.int .i64 x.on) ∧ w'.cell? ⟨xb, 2, none⟩ = some (.slice tA x.frames.length tc) ∧ w'.cell? ⟨xb, 3, none⟩ = some (.slice kA x.stack.length kc) ∧ w'.cell? ⟨xb, 4, none⟩ = some (.int .i64 x.code) ∧ w'.cell? ⟨cb, 0, none⟩ = some (.int .i64 x.state) ∧ w'.cell? ⟨cb, 1, none⟩ = some (.int .i64 x.on) ∧ w'.cell? ⟨cb, 2, none⟩ = some (.slice cA2 x.frames.length cc2) ∧ w'.cell? ⟨cb, 3, none⟩ = some (.slice qA x.stack.length qc) ∧ w'.cell? ⟨cb, 4, none⟩ = some (.int .i64 x.code))
        (first | with_reducible exact G3 | with_reducible exact ⟨a0, a1, a2', a3, a4, q0, q1, q2, b0, b1, b2, b3, b4, r0, r1, r2, x0, x1, x2, x3, x4, c0, c1, c2, c3, c4⟩ | go_keep)
        (first
          | (go_at_call 15; first | ((with_reducible refine (HC1.out _ (by first | with_reducible exact HBA.out | with_reducible exact HBA.out.drew | with_reducible exact Below.refl _ _ | exact (Below.refl _ _).drew)).mono ?_); (rintro e w4 ⟨rfl, HBA, G3⟩)) | ((with_reducible refine (HC2.out _ (by first | with_reducible exact HBA.out | with_reducible exact HBA.out.drew | with_reducible exact Below.refl _ _ | exact (Below.refl _ _).drew)).mono ?_); (rintro e w4 ⟨rfl, HBA, G3⟩)))
          | (go_at_call 16; (with_reducible refine (HC3.out _ (by first | with_reducible exact HBA.out | with_reducible exact HBA.out.drew | with_reducible exact Below.refl _ _ | exact (Below.refl _ _).drew)).mono ?_); (rintro e w4 ⟨rfl, HBA, G3⟩))
          | fail)
      all_goals
        have hb10 := HBA.out
        obtain ⟨W10, hW10⟩ : ∃ W, W = w4 := ⟨_, rfl⟩
        rw [← hW10] at hb10 ⊢
        have HS10 := Lib.hid (HS5.out.below hb10); have KA10 := Lib.hid (KA5.out.below hb10 KA5.out.lt); have KB10 := Lib.hid (KB5.out.below hb10 KB5.out.lt); have KR10 := Lib.hid (KR5.out.below hb10 KR5.out.lt); have HRA10 := Lib.hid (HRA5.out.below hb10); have HRB10 := Lib.hid (HRB5.out.below hb10); have HB10 := Lib.hid (HB5.out.trans (hb10.mono HB5.out.size))
        clear hb10 hW10 G3 G0 HBA HC1 HC2 HC3 HS5 KC5 HRC5 KA5 KQ5 HRA5 HRB5 KB5 KR5 HB5 HB4 HB2 HB1 a0 a1 a2' a3 a4 q0 q1 q2 b0 b1 b2 b3 b4 r0 r1 r2 x0 x1 x2 x3 x4 c0 c1 c2 c3 c4 HLX
        have b2 : W10.cell? ⟨bb, 2, none⟩ = some (.slice bA y.frames.length bc) := (KB10.out.cell 2).trans rfl
        rcases HAF.out with ⟨c, hc, e⟩ | ⟨h1, h2, h3, h4⟩
        · injection e with e1 e2
          subst e1
          simp only [List.length_nil] at b2
          clear hc e2
          go_wp2_with fail
          refine (vlives_any _).mono ?_
          rintro e w7 ⟨rfl, hb7⟩
          go_wp2_with fail
          go_ret
          exact ⟨rfl, HS10.out.pb.bel.trans (hb7.mono HS10.out.pb.bel.size)⟩
        · have hy0 : y.state = 0 := by rw [show y.state = x.state from h3]; exact HSI.out.st
          have hpos := frames_pos (show mayT g y = true from h2) (by rw [hy0]; decide)
          have hposI : ((y.frames.length : Int) == 0) = false := by rw [beq_eq_false_iff_ne]; omega
          have HY0 := Lib.hid hy0
          clear h1 h2 h3 h4 hpos hy0
          have a0 : W10.cell? ⟨ab, 0, none⟩ = some (.int .i64 y.state) := (KA10.out.cell 0).trans rfl
          have a1 : W10.cell? ⟨ab, 1, none⟩ = some (.int .i64 y.on) := (KA10.out.cell 1).trans rfl
          have a2' : W10.cell? ⟨ab, 2, none⟩ = some (.slice aA y.frames.length ac) := (KA10.out.cell 2).trans rfl
          have a3 : W10.cell? ⟨ab, 3, none⟩ = some (.slice uA y.stack.length uc) := (KA10.out.cell 3).trans rfl
          have a4 : W10.cell? ⟨ab, 4, none⟩ = some (.int .i64 y.code) := (KA10.out.cell 4).trans rfl
          have x0 : W10.cell? ⟨xb, 0, none⟩ = some (.int .i64 x.state) := (HS10.out.tb.cell 0).trans rfl
          have x1 : W10.cell? ⟨xb, 1, none⟩ = some (.int .i64 x.on) := (HS10.out.tb.cell 1).trans rfl
          have x2 : W10.cell? ⟨xb, 2, none⟩ = some (.slice tA x.frames.length tc) := (HS10.out.tb.cell 2).trans rfl
          have x3 : W10.cell? ⟨xb, 3, none⟩ = some (.slice kA x.stack.length kc) := (HS10.out.tb.cell 3).trans rfl
          have x4 : W10.cell? ⟨xb, 4, none⟩ = some (.int .i64 x.code) := (HS10.out.tb.cell 4).trans rfl
          have f0 := HS10.out.tb.frozen 0
          have f1 := HS10.out.tb.frozen 1
          have f2 := HS10.out.tb.frozen 2
          have f3 := HS10.out.tb.frozen 3
          have f4 := HS10.out.tb.frozen 4
          have hxbl := HSI.out.tb.lt
          have hst11 := HS10.out.put (Below.refl _ _) (HRA10.out.mono (E := fun i => i ≠ xb) (fun i hi _ => by omega)) HYM.out.1 HY0.out hxw hgx
          simp only at hst11
          have hf11 : Fr (fun i => i = xb) W10 (((((W10.setCell ⟨xb, 0, none⟩ (.int .i64 y.state)).setCell ⟨xb, 1, none⟩ (.int .i64 y.on)).setCell ⟨xb, 2, none⟩ (.slice aA y.frames.length ac)).setCell ⟨xb, 3, none⟩ (.slice uA y.stack.length uc)).setCell ⟨xb, 4, none⟩ (.int .i64 y.code)) := (Fr.refl (fun i => i = xb) W10).set5 (g := xb) (.inl rfl) _ _ _ _ _
          obtain ⟨W11, hW11⟩ : ∃ W, W = (((((W10.setCell ⟨xb, 0, none⟩ (.int .i64 y.state)).setCell ⟨xb, 1, none⟩ (.int .i64 y.on)).setCell ⟨xb, 2, none⟩ (.slice aA y.frames.length ac)).setCell ⟨xb, 3, none⟩ (.slice uA y.stack.length uc)).setCell ⟨xb, 4, none⟩ (.int .i64 y.code)) := ⟨_, rfl⟩
          rw [← hW11] at hst11 hf11
          have hbx : bb ≠ xb := fun e => by have := HBXX.out; omega
          have kb11 := hf11.blk KB10.out hbx
          have kr11 := hf11.blk KR10.out (by have := HBXX.out; omega)
          have hrb11 := HRB10.out.keep (fun q hq hl => hf11.cell hl (fun e => by omega))
          have hra11 := HRA10.out.keep (fun q hq hl => hf11.cell hl (fun e => by omega))
          have HS11 := Lib.hid hst11; have KB11 := Lib.hid kb11; have KR11 := Lib.hid kr11; have HRB11 := Lib.hid hrb11; have HRA11 := Lib.hid hra11; have HW11 := Lib.hid hW11
          clear hst11 kb11 kr11 hrb11 hra11 hW11 hf11 HS10 KA10 KB10 KR10 HRA10 HRB10
          go_upto_region 15 with fail
          rw [← HW11.out]
          clear HW11 a0 a1 a2' a3 a4 x0 x1 x2 x3 x4 f0 f1 f2 f3 f4 b2 hposI
          have r0 : W11.cell? ⟨bb + 1, 0, none⟩ = some (.int .i64 rq.kind) := (KR11.out.cell 0).trans rfl
          by_cases hk1 : 1 < rq.kind
          · by_cases hl2 : k < len2
            · have hl2i : (k : Int) < (len2 : Int) := by omega
              obtain ⟨ad, tv, rfl, hadb, hlk, hat0⟩ := HRI.out.at_ hl2
              have hat : W11.cell? (ad.add k) = some (.int .i64 tv) := (HS11.out.pb.bel.cell (by rw [block_of_add]; exact hadb)).trans hat0
              have hadl : (ad.add k).block < W11.heap.size := by rw [block_of_add]; have := HS11.out.pb.bel.size; omega
              have HAT := Lib.hid hat; have HADL := Lib.hid hadl
              clear hlk hat0 hadb hat hadl
              have hok16 : y.stack.length ≤ 16 := (lenT_may HYM.out.1).2
              have hpl := push_all_lens [tv] HYM.out.2.1
              have hpm : (pushAll y [tv]).2 = true → mayT g (pushAll y [tv]).1 = true ∧ (pushAll y [tv]).1.state = 0 := fun hh => by
                refine ⟨?_, (push_one_state tv hh).trans HY0.out⟩
                unfold pushAll at hh ⊢
                split
                · rename_i h16
                  exact mayT_push HYM.out.1 (by rw [HY0.out]; decide) h16
                · rename_i h16
                  rw [if_neg h16] at hh
                  cases hh
              have hvt := fun (X : World) (A : Option Addr) (hX : Below W11.heap.size W11 X) (hri : RI X X.heap.size A 1 1 [tv]) => vtell_any ⟨aA, ac, uA, uc⟩ y X _ (HS11.out.rt.below hX) HYM.out.2.1 [tv] A 1 1 hri (by omega)
              have hdt := fun (X : World) (A : Option Addr) (hX : Below W11.heap.size W11 X) (hri : RI X X.heap.size A 1 1 [tv]) => refTell5_any ⟨bA, bc, vA, vc⟩ y [tv] A 1 1 X _ ((HRB11.out.mono (E := fun i => i < W11.heap.size) (fun i _ hl => hl)).below hX) HYM.out.2.1 hri (by omega)
              obtain ⟨y2, ok, hyo⟩ : ∃ y2 ok, pushAll y [tv] = (y2, ok) := ⟨_, _, rfl⟩
              rw [hyo] at hpl hpm hvt hdt
              simp only at hpl hpm hvt hdt
              have HVT := Lib.hid hvt; have HDT := Lib.hid hdt; have HPL := Lib.hid hpl; have HPM := Lib.hid hpm
              clear hvt hdt hpl hpm hyo hok16
              have hks : ∀ X, Below W11.heap.size W11 X → X.cell? ⟨xb, 0, none⟩ = some (.int .i64 y.state) ∧ X.cell? ⟨xb, 1, none⟩ = some (.int .i64 y.on) ∧ X.cell? ⟨xb, 2, none⟩ = some (.slice aA y.frames.length ac) ∧ X.cell? ⟨xb, 3, none⟩ = some (.slice uA y.stack.length uc) ∧ X.cell? ⟨xb, 4, none⟩ = some (.int .i64 y.code) ∧ X.cell? (ad.add k) = some (.int .i64 tv) := fun X hX => by
                have k0 := HS11.out.tb.below hX HS11.out.tb.lt
                exact ⟨(k0.cell 0).trans rfl, (k0.cell 1).trans rfl, (k0.cell 2).trans rfl, (k0.cell 3).trans rfl, (k0.cell 4).trans rfl, (hX.cell HADL.out).trans HAT.out⟩
              have HKS := Lib.hid hks
              obtain ⟨x0, x1, x2, x3, x4, tt⟩ := hks W11 (Below.refl _ _)
              clear hks
              go_upto_region 16 with fail
              clear r0
              go_cut [16, 17] (fun s16 s17 wx => TiC W11 (fun i => W11.heap.size ≤ i) y2 ok s16 s17 wx)
              case first =>
                go_region_held3 (fun X => X.cell? ⟨xb, 0, none⟩ = some (.int .i64 y.state) ∧ X.cell? ⟨xb, 1, none⟩ = some (.int .i64 y.on) ∧ X.cell? ⟨xb, 2, none⟩ = some (.slice aA y.frames.length ac) ∧ X.cell? ⟨xb, 3, none⟩ = some (.slice uA y.stack.length uc) ∧ X.cell? ⟨xb, 4, none⟩ = some (.int .i64 y.code) ∧ X.cell? (ad.add k) = some (.int .i64 tv))
                  (first | (exact HKS.out _ (by repeat (first | (with_reducible exact hbr) | (with_reducible exact Below.refl _ _) | (with_reducible refine Below.drew ?_) | (with_reducible refine Below.setCell ?_ ?hs _; case hs => first | omega | (simp <;> omega) | (have := hbr.size; first | omega | (simp <;> omega))) | (with_reducible refine Below.alloc ?_ ?hs _; case hs => first | omega | (simp <;> omega) | (have := hbr.size; first | omega | (simp <;> omega)))))))
                  (first
                    | (go_simp; go_at_call 18; refine (HVT.out _ _ (by repeat (first | (with_reducible exact hbr) | (with_reducible exact Below.refl _ _) | (with_reducible refine Below.drew ?_) | (with_reducible refine Below.setCell ?_ ?hs _; case hs => first | omega | (simp <;> omega) | (have := hbr.size; first | omega | (simp <;> omega))) | (with_reducible refine Below.alloc ?_ ?hs _; case hs => first | omega | (simp <;> omega) | (have := hbr.size; first | omega | (simp <;> omega))))) (ri_one (by first | (simp; done) | (simp; omega)) (by simp))).mono ?_; rintro er wr' ⟨⟨rA, rc, rB, rd⟩, rfl, hrr, hr4⟩
                       have hbr : Below W11.heap.size W11 wr' := Below.trans (by repeat (first | (with_reducible exact hbr) | (with_reducible exact Below.refl _ _) | (with_reducible refine Below.drew ?_) | (with_reducible refine Below.setCell ?_ ?hs _; case hs => first | omega | (simp <;> omega) | (have := hbr.size; first | omega | (simp <;> omega))) | (with_reducible refine Below.alloc ?_ ?hs _; case hs => first | omega | (simp <;> omega) | (have := hbr.size; first | omega | (simp <;> omega))))) (hr4.mono (by first | omega | (simp; omega) | simp))
                       obtain ⟨hcr, hfr⟩ := bcellU hr4
                       have hzr := hr4.size
                       try simp at hzr
                       try (have hr1 : W11.heap.size < wr'.heap.size := by omega)
                       try (have hr2 : W11.heap.size + 1 < wr'.heap.size := by omega)))
                all_goals
                  go_wp2_with fail
                  go_meet
                  refine ⟨_, ⟨rA, rc, rB, rd⟩, rfl, rfl, ?b1, ?rt, (by repeat (first | (with_reducible exact hbr) | (with_reducible exact Below.refl _ _) | (with_reducible refine Below.drew ?_) | (with_reducible refine Below.setCell ?_ ?hs _; case hs => first | omega | (simp <;> omega) | (have := hbr.size; first | omega | (simp <;> omega))) | (with_reducible refine Below.alloc ?_ ?hs _; case hs => first | omega | (simp <;> omega) | (have := hbr.size; first | omega | (simp <;> omega)))))⟩
                  case b1 => (show Blk _ _ _ #[.int .i64 y2.state, .int .i64 y2.on, .slice rA y2.frames.length rc, .slice rB y2.stack.length rd, .int .i64 y2.code]; (repeat (first | (with_reducible refine blk_at ?hs; case hs => (first | rfl | (simp; done))) | (with_reducible refine Blk.set5 (v0 := .int .i64 0) (v1 := .int .i64 0) (v2 := .slice none 0 0) (v3 := .slice none 0 0) (v4 := .int .i64 0) ?_ _ _ _ _ _) | (with_reducible refine Blk.set3 (v0 := .int .i64 0) (v1 := .int .i64 0) (v2 := .int .i64 0) ?_ _ _ _) | (with_reducible refine Blk.far ?_ ?hs _; case hs => (show (_ : Nat) ≠ _; first | omega | (simp <;> omega) | (have := hbr.size; first | omega | (simp <;> omega)))) | (with_reducible refine Blk.alloc ?_ _) | (with_reducible refine Blk.below ?_ hr4 ?hs; (case hs => (first | omega | (simp <;> omega) | (have := hbr.size; first | omega | (simp <;> omega)))); (repeat (first | (with_reducible refine blk_at ?hs; case hs => (first | rfl | (simp; done))) | (with_reducible refine Blk.drew ?_) | (with_reducible refine Blk.alloc ?_ _))); done))))
                  case rt =>
                    refine (hrr.keep fun q hq hl => ?_).mono fun i hi _ => ?_
                    · have hq' := hq
                      try simp at hq'
                      refine Fr.cell (S := fun i => i ≠ q.block) ?_ hl (fun h => h rfl)
                      (repeat (first | (with_reducible exact Fr.refl _ _) | (with_reducible refine Fr.alloc ?_ _) | (with_reducible refine Fr.setCell ?_ (.inl ?hs) _; case hs => (show (_ : Nat) ≠ q.block; first | omega | (simp <;> omega) | (have := hbr.size; first | omega | (simp <;> omega))))))
                    · have hi' := hi
                      try simp at hi'
                      omega
              case rest =>
              obtain ⟨c2, ⟨dA, dc, eA, ec⟩, rfl, rfl, kd, hrd, hb12⟩ := hcut
              obtain ⟨W12, hW12⟩ : ∃ W, W = wc := ⟨_, rfl⟩
              rw [← hW12] at kd hrd hb12 ⊢
              have KD := Lib.hid kd; have HRD := Lib.hid hrd; have HB12 := Lib.hid hb12
              clear hW12 kd hrd hb12 x0 x1 x2 x3 x4 tt HKS HVT
              have hks : ∀ X, Below W12.heap.size W12 X → X.cell? ⟨bb, 0, none⟩ = some (.int .i64 y.state) ∧ X.cell? ⟨bb, 1, none⟩ = some (.int .i64 y.on) ∧ X.cell? ⟨bb, 2, none⟩ = some (.slice bA y.frames.length bc) ∧ X.cell? ⟨bb, 3, none⟩ = some (.slice vA y.stack.length vc) ∧ X.cell? ⟨bb, 4, none⟩ = some (.int .i64 y.code) ∧ X.cell? (ad.add k) = some (.int .i64 tv) := fun X hX => by
                have hX2 := HB12.out.trans (hX.mono HB12.out.size)
                have k0 := KB11.out.below hX2 KB11.out.lt
                exact ⟨(k0.cell 0).trans rfl, (k0.cell 1).trans rfl, (k0.cell 2).trans rfl, (k0.cell 3).trans rfl, (k0.cell 4).trans rfl, (hX2.cell HADL.out).trans HAT.out⟩
              have hdt2 : ∀ (X : World) (A : Option Addr), Below W12.heap.size W12 X → RI X X.heap.size A 1 1 [tv] → Calls Try.prog 19 #[.agg #[.int .i64 y.state, .int .i64 y.on, .slice bA y.frames.length bc, .slice vA y.stack.length vc, .int .i64 y.code], .slice A 1 1] X fun e w' => ∃ hx : TH, e = .returned (.tuple #[.agg #[.int .i64 y2.state, .int .i64 y2.on, .slice hx.fA y2.frames.length hx.fc, .slice hx.sA y2.stack.length hx.sc, .int .i64 y2.code], .bool ok]) ∧ RT w' (fun i => i < W12.heap.size ∨ X.heap.size ≤ i) hx y2 ∧ Below X.heap.size X w' := fun X A hX hri =>
                (HDT.out X A (HB12.out.trans (hX.mono HB12.out.size)) hri).mono fun e w' ⟨hx, e1, e2, e3⟩ => ⟨hx, e1, e2.mono (fun i hi _ => by have := HB12.out.size; rcases hi with hi | hi; exact .inl (by omega); exact .inr hi), e3⟩
              have HKS := Lib.hid hks; have HDT2 := Lib.hid hdt2
              obtain ⟨x0, x1, x2, x3, x4, tt⟩ := hks W12 (Below.refl _ _)
              clear hks hdt2 HDT
              go_upto_region 17 with fail
              go_cut [18, 19] (fun s16 s17 wx => TiC W12 (fun i => True) y2 ok s16 s17 wx)
              case first =>
                go_region_held3 (fun X => X.cell? ⟨bb, 0, none⟩ = some (.int .i64 y.state) ∧ X.cell? ⟨bb, 1, none⟩ = some (.int .i64 y.on) ∧ X.cell? ⟨bb, 2, none⟩ = some (.slice bA y.frames.length bc) ∧ X.cell? ⟨bb, 3, none⟩ = some (.slice vA y.stack.length vc) ∧ X.cell? ⟨bb, 4, none⟩ = some (.int .i64 y.code) ∧ X.cell? (ad.add k) = some (.int .i64 tv))
                  (first | (exact HKS.out _ (by repeat (first | (with_reducible exact hbr) | (with_reducible exact Below.refl _ _) | (with_reducible refine Below.drew ?_) | (with_reducible refine Below.setCell ?_ ?hs _; case hs => first | omega | (simp <;> omega) | (have := hbr.size; first | omega | (simp <;> omega))) | (with_reducible refine Below.alloc ?_ ?hs _; case hs => first | omega | (simp <;> omega) | (have := hbr.size; first | omega | (simp <;> omega)))))))
                  (first
                    | (go_simp; go_at_call 19; refine (HDT2.out _ _ (by repeat (first | (with_reducible exact hbr) | (with_reducible exact Below.refl _ _) | (with_reducible refine Below.drew ?_) | (with_reducible refine Below.setCell ?_ ?hs _; case hs => first | omega | (simp <;> omega) | (have := hbr.size; first | omega | (simp <;> omega))) | (with_reducible refine Below.alloc ?_ ?hs _; case hs => first | omega | (simp <;> omega) | (have := hbr.size; first | omega | (simp <;> omega))))) (ri_one (by first | (simp; done) | (simp; omega)) (by simp))).mono ?_; rintro er wr' ⟨⟨rA, rc, rB, rd⟩, rfl, hrr, hr4⟩
                       have hbr : Below W12.heap.size W12 wr' := Below.trans (by repeat (first | (with_reducible exact hbr) | (with_reducible exact Below.refl _ _) | (with_reducible refine Below.drew ?_) | (with_reducible refine Below.setCell ?_ ?hs _; case hs => first | omega | (simp <;> omega) | (have := hbr.size; first | omega | (simp <;> omega))) | (with_reducible refine Below.alloc ?_ ?hs _; case hs => first | omega | (simp <;> omega) | (have := hbr.size; first | omega | (simp <;> omega))))) (hr4.mono (by first | omega | (simp; omega) | simp))
                       obtain ⟨hcr, hfr⟩ := bcellU hr4
                       have hzr := hr4.size
                       try simp at hzr
                       try (have hr1 : W12.heap.size < wr'.heap.size := by omega)
                       try (have hr2 : W12.heap.size + 1 < wr'.heap.size := by omega)))
                all_goals
                  go_wp2_with fail
                  go_meet
                  refine ⟨_, ⟨rA, rc, rB, rd⟩, rfl, rfl, ?b1, ?rt, (by repeat (first | (with_reducible exact hbr) | (with_reducible exact Below.refl _ _) | (with_reducible refine Below.drew ?_) | (with_reducible refine Below.setCell ?_ ?hs _; case hs => first | omega | (simp <;> omega) | (have := hbr.size; first | omega | (simp <;> omega))) | (with_reducible refine Below.alloc ?_ ?hs _; case hs => first | omega | (simp <;> omega) | (have := hbr.size; first | omega | (simp <;> omega)))))⟩
                  case b1 => (show Blk _ _ _ #[.int .i64 y2.state, .int .i64 y2.on, .slice rA y2.frames.length rc, .slice rB y2.stack.length rd, .int .i64 y2.code]; (repeat (first | (with_reducible refine blk_at ?hs; case hs => (first | rfl | (simp; done))) | (with_reducible refine Blk.set5 (v0 := .int .i64 0) (v1 := .int .i64 0) (v2 := .slice none 0 0) (v3 := .slice none 0 0) (v4 := .int .i64 0) ?_ _ _ _ _ _) | (with_reducible refine Blk.set3 (v0 := .int .i64 0) (v1 := .int .i64 0) (v2 := .int .i64 0) ?_ _ _ _) | (with_reducible refine Blk.far ?_ ?hs _; case hs => (show (_ : Nat) ≠ _; first | omega | (simp <;> omega) | (have := hbr.size; first | omega | (simp <;> omega)))) | (with_reducible refine Blk.alloc ?_ _) | (with_reducible refine Blk.below ?_ hr4 ?hs; (case hs => (first | omega | (simp <;> omega) | (have := hbr.size; first | omega | (simp <;> omega)))); (repeat (first | (with_reducible refine blk_at ?hs; case hs => (first | rfl | (simp; done))) | (with_reducible refine Blk.drew ?_) | (with_reducible refine Blk.alloc ?_ _))); done))))
                  case rt =>
                    refine (hrr.keep fun q hq hl => ?_).mono fun i hi _ => ?_
                    · have hq' := hq
                      try simp at hq'
                      refine Fr.cell (S := fun i => i ≠ q.block) ?_ hl (fun h => h rfl)
                      (repeat (first | (with_reducible exact Fr.refl _ _) | (with_reducible refine Fr.alloc ?_ _) | (with_reducible refine Fr.setCell ?_ (.inl ?hs) _; case hs => (show (_ : Nat) ≠ q.block; first | omega | (simp <;> omega) | (have := hbr.size; first | omega | (simp <;> omega))))))
                    · have hi' := hi
                      try simp at hi'
                      trivial
              case rest =>
              obtain ⟨d2, ⟨gA, gc', iA, ic⟩, rfl, rfl, ke, hre, hb13⟩ := hcut
              obtain ⟨W13, hW13⟩ : ∃ W, W = wc := ⟨_, rfl⟩
              rw [← hW13] at ke hre hb13 ⊢
              have hrd13 := HRD.out.below hb13
              have kd13 := KD.out.below hb13 KD.out.lt
              have hs13 := HS11.out.below (HB12.out.trans (hb13.mono HB12.out.size))
              have hsm := refSame_yes ⟨dA, dc, eA, ec⟩ ⟨gA, gc', iA, ic⟩ y2 W13 _ _ hrd13 hre HPL.out
              have HSM := Lib.hid hsm; have KD13 := Lib.hid kd13; have HRD13 := Lib.hid hrd13; have HS13 := Lib.hid hs13
              have hxl := HS11.out.tb.lt
              obtain ⟨x0', x1', x2', x3', x4'⟩ := cells5 kd13
              obtain ⟨z0', z1', z2', z3', z4'⟩ := cells5 ke
              clear hW13 hrd13 kd13 hs13 hsm ke hre hb13 x0 x1 x2 x3 x4 tt HKS HDT2 KD HRD
              go_upto_region 18 with fail
              go_wp2_with fail
              refine HSM.out.mono ?_
              rintro e w14 ⟨rfl, hb14⟩
              have HS14 := Lib.hid (HS13.out.below hb14); have KD14 := Lib.hid (KD13.out.below hb14 KD13.out.lt); have HRD14 := Lib.hid (HRD13.out.below hb14)
              clear hb14 HSM x0' x1' x2' x3' x4' z0' z1' z2' z3' z4'
              cases ok with
              | false =>
                go_wp2_with fail
                refine (vlives_any _).mono ?_
                rintro e w7 ⟨rfl, hb7⟩
                go_wp2_with fail
                go_ret
                exact ⟨rfl, HS14.out.pb.bel.trans (hb7.mono HS14.out.pb.bel.size)⟩
              | true =>
                obtain ⟨hm2, hs2⟩ := HPM.out rfl
                have hst15 := HS14.out.put (Below.refl _ _) (HRD14.out.mono (E := fun i => i ≠ xb) (fun i hi _ => by omega)) hm2 hs2 hxw hgx
                simp only at hst15
                obtain ⟨W15, hW15⟩ : ∃ W, W = (((((w14.setCell ⟨xb, 0, none⟩ (.int .i64 y2.state)).setCell ⟨xb, 1, none⟩ (.int .i64 y2.on)).setCell ⟨xb, 2, none⟩ (.slice dA y2.frames.length dc)).setCell ⟨xb, 3, none⟩ (.slice eA y2.stack.length ec)).setCell ⟨xb, 4, none⟩ (.int .i64 y2.code)) := ⟨_, rfl⟩
                rw [← hW15] at hst15
                obtain ⟨x0, x1, x2, x3, x4⟩ := cells5 HS14.out.tb
                obtain ⟨z0', z1', z2', z3', z4'⟩ := cells5 KD14.out
                have f0 := HS14.out.tb.frozen 0
                have f1 := HS14.out.tb.frozen 1
                have f2 := HS14.out.tb.frozen 2
                have f3 := HS14.out.tb.frozen 3
                have f4 := HS14.out.tb.frozen 4
                have HS15 := Lib.hid hst15; have HW15 := Lib.hid hW15
                clear hst15 hW15 hm2 hs2
                go_upto_region 5 with fail
                rw [← HW15.out]
                clear HW15 x0 x1 x2 x3 x4 z0' z1' z2' z3' z4' f0 f1 f2 f3 f4
                go_wp2_with fail
                exact ⟨⟨k + 1, ⟨dA, dc, eA, ec⟩, y2, by omega, by go_num, HS15⟩, by simp [intOf]; omega⟩
            · have hl2i : ¬ (k : Int) < (len2 : Int) := by omega
              go_wp2_with fail
              exact ⟨⟨k + 1, ⟨aA, ac, uA, uc⟩, y, by omega, by go_num, HS11⟩, by simp [intOf]; omega⟩
          · go_wp2_with fail
            exact ⟨⟨k + 1, ⟨aA, ac, uA, uc⟩, y, by omega, by go_num, HS11⟩, by simp [intOf]; omega⟩
    · have hk4 : ¬ (k : Int) < 40 := by omega
      go_wp2_with fail
      refine (vlives_any _).mono ?_
      rintro e w7 ⟨rfl, hb7⟩
      go_wp2_with fail
      go_ret
      exact ⟨rfl, HSI.out.pb.bel.trans (hb7.mono HSI.out.pb.bel.size)⟩
end Go.Proofs.Ytkciedcfphhenaa.vmSteps
