
/-
  The walk of VmTells.
-/
import Derived.Test.YtkciedcfphhenaaRows
import Derived.WalkKit
import Derived.ProofKit
import Derived.OpenShut
import Derived.ShutString
import Derived.ChangeOld
import Derived.Below
import Derived.Test.YtkciedcfphhenaaVmRun
import Derived.Test.YtkciedcfphhenaaThrI
import Derived.Test.YtkciedcfphhenaaPrOpen
import Derived.Test.YtkciedcfphhenaaThrOpen
import Derived.Test.YtkciedcfphhenaaSDeep
namespace Go.Proofs.Ytkciedcfphhenaa.vmTells
open Go.ChangeShapes Go.WideShapes Go.ChangeAt Go.RowKit Go.Proofs.Ytkciedcfphhenaa Go.Proofs.Ytkciedcfphhenaa.Plain
open Go.ChangeMaps (open_string shut_string)
set_option linter.unusedVariables false



theorem bcellV {W w1 : World} (hb : Below W.heap.size W w1) : (∀ b o, b < W.heap.size → w1.cell? ⟨b, o, none⟩ = W.cell? ⟨b, o, none⟩) ∧ (∀ b o, b < W.heap.size → w1.frozen? ⟨b, o, none⟩ = W.frozen? ⟨b, o, none⟩) :=
  ⟨fun b o h => hb.cell (p := ⟨b, o, none⟩) h, fun b o h => hb.frozen (p := ⟨b, o, none⟩) h⟩
/-- The boxes of the document's Tell: the result's, and the thread so far. -/
structure VQ (w wr : World) (D : Nat → Prop) (hk : TH) (tk : TV) : Prop where
  b1 : Blk wr (w.heap.size + 1) 29 #[.int .i64 0, .int .i64 0, .slice none 0 0, .slice none 0 0, .int .i64 0]
  b2 : Blk wr (w.heap.size + 1 + 1) 29 #[.int .i64 tk.state, .int .i64 tk.on, .slice hk.fA tk.frames.length hk.fc, .slice hk.sA tk.stack.length hk.sc, .int .i64 tk.code]
  rt : RT wr (fun i => (D i ∧ i < w.heap.size) ∨ w.heap.size + 1 + 1 + 1 ≤ i) hk tk
  len : LensT tk
  bel : Below w.heap.size w wr
theorem VQ.step {w wr w1 : World} {D : Nat → Prop} {hk : TH} {tk : TV} (g : VQ w wr D hk tk) (hb : Below wr.heap.size wr w1) {hj : TH} {t' : TV} (hr : RT w1 (fun i => ((D i ∧ i < w.heap.size) ∨ w.heap.size + 1 + 1 + 1 ≤ i) ∨ wr.heap.size ≤ i) hj t') (hl : LensT t') : VQ w (((((w1.setCell ⟨w.heap.size + 1 + 1, 0, none⟩ (.int .i64 t'.state)).setCell ⟨w.heap.size + 1 + 1, 1, none⟩ (.int .i64 t'.on)).setCell ⟨w.heap.size + 1 + 1, 2, none⟩ (.slice hj.fA t'.frames.length hj.fc)).setCell ⟨w.heap.size + 1 + 1, 3, none⟩ (.slice hj.sA t'.stack.length hj.sc)).setCell ⟨w.heap.size + 1 + 1, 4, none⟩ (.int .i64 t'.code)) D hj t' := by
  have hz := g.bel.size
  have hl1 := g.b2.lt
  have hf := (Fr.refl (fun i => i = w.heap.size + 1 + 1) w1).set5 (g := w.heap.size + 1 + 1) (.inl rfl) (.int .i64 t'.state) (.int .i64 t'.on) (.slice hj.fA t'.frames.length hj.fc) (.slice hj.sA t'.stack.length hj.sc) (.int .i64 t'.code)
  refine ⟨(g.b1.below hb g.b1.lt).far5 (g' := w.heap.size + 1 + 1) (by omega) (.int .i64 t'.state) (.int .i64 t'.on) (.slice hj.fA t'.frames.length hj.fc) (.slice hj.sA t'.stack.length hj.sc) (.int .i64 t'.code), (g.b2.below hb g.b2.lt).set5 (.int .i64 t'.state) (.int .i64 t'.on) (.slice hj.fA t'.frames.length hj.fc) (.slice hj.sA t'.stack.length hj.sc) (.int .i64 t'.code), ?_, hl, (g.bel.trans (hb.mono hz)).trans (hf.below (Nat.le_trans hz hb.size) (fun i hi => by omega))⟩
  exact (hr.keep fun x hx hx2 => hf.cell hx2 (fun e => by omega)).mono fun i hi _ => by rcases hi with hi | hi; exact hi; exact .inr (by omega)
def VQR (w : World) (D : Nat → Prop) (t : TV) (l : List Int) (s : Value) (wr : World) : Prop :=
  ∃ (k : Nat) (hk : TH) (tk : TV), k ≤ l.length ∧ s = .int .i64 (k : Int) ∧ VQ w wr D hk tk ∧ pushAll t l = pushAll tk (l.drop k)
/-- What a pushing leaves: the next thread in a box. -/
def VQC (wr : World) (E : Nat → Prop) (x : TV) (b : Bool) (s8 s9 : Value) (wx : World) : Prop :=
  ∃ (ab : Nat) (h' : TH), s8 = .pointer (some ⟨ab, 0, none⟩) ∧ s9 = .bool b ∧ wr.heap.size ≤ ab ∧ Blk wx ab 29 #[.int .i64 x.state, .int .i64 x.on, .slice h'.fA x.frames.length h'.fc, .slice h'.sA x.stack.length h'.sc, .int .i64 x.code] ∧ RT wx (fun i => E i ∨ (wr.heap.size ≤ i ∧ i ≠ ab)) h' x ∧ Below wr.heap.size wr wx
set_option maxHeartbeats 8000000 in
set_option maxRecDepth 100000 in
theorem refTell5_any (ht : TH) (t : TV) (l : List Int) (A : Option Addr) (n c : Nat) (w : World) (D : Nat → Prop) (hr : RT w D ht t) (hl : LensT t) (hri : RI w w.heap.size A n c l) (hn : n ≤ 1000000) :
    Calls Try.prog 19 #[.agg #[.int .i64 t.state, .int .i64 t.on, .slice ht.fA t.frames.length ht.fc, .slice ht.sA t.stack.length ht.sc, .int .i64 t.code], .slice A n c] w fun e w' => ∃ hx : TH, e = .returned (.tuple #[.agg #[.int .i64 (pushAll t l).1.state, .int .i64 (pushAll t l).1.on, .slice hx.fA (pushAll t l).1.frames.length hx.fc, .slice hx.sA (pushAll t l).1.stack.length hx.sc, .int .i64 (pushAll t l).1.code], .bool (pushAll t l).2]) ∧ RT w' (fun i => D i ∨ w.heap.size ≤ i) hx (pushAll t l).1 ∧ Below w.heap.size w w' := by
  obtain ⟨a1, c1, s1, d1⟩ := ht
  obtain rfl : l.length = n := hri.1
  have HRI := Lib.hid hri
  clear hri
  go_enter Try.func19, Try.ntmps19
  have hvq : VQ w (((w.alloc (.cells #[.int .i64 t.state, .int .i64 t.on, .slice a1 t.frames.length c1, .slice s1 t.stack.length d1, .int .i64 t.code] 29)).alloc (.cells #[.int .i64 0, .int .i64 0, .slice none 0 0, .slice none 0 0, .int .i64 0] 29)).alloc (.cells #[.int .i64 t.state, .int .i64 t.on, .slice a1 t.frames.length c1, .slice s1 t.stack.length d1, .int .i64 t.code] 29)) D ⟨a1, c1, s1, d1⟩ t := by
    refine ⟨Blk.alloc ?_ _, ?_, ((((hr.cut.mono (E := fun i => (D i ∧ i < w.heap.size) ∨ w.heap.size + 1 + 1 + 1 ≤ i) fun i h _ => .inl h).alloc _).alloc _).alloc _), hl, (((Below.refl _ _).alloc (Nat.le_refl _) _).alloc (by simp) _).alloc (by simp; omega) _⟩
    · simpa using Blk.new (w.alloc (.cells #[.int .i64 t.state, .int .i64 t.on, .slice a1 t.frames.length c1, .slice s1 t.stack.length d1, .int .i64 t.code] 29)) 29 #[.int .i64 0, .int .i64 0, .slice none 0 0, .slice none 0 0, .int .i64 0]
    · simpa using Blk.new ((w.alloc (.cells #[.int .i64 t.state, .int .i64 t.on, .slice a1 t.frames.length c1, .slice s1 t.stack.length d1, .int .i64 t.code] 29)).alloc (.cells #[.int .i64 0, .int .i64 0, .slice none 0 0, .slice none 0 0, .int .i64 0] 29)) 29 #[.int .i64 t.state, .int .i64 t.on, .slice a1 t.frames.length c1, .slice s1 t.stack.length d1, .int .i64 t.code]
  have HVQ := Lib.hid hvq
  clear hr hl hvq
  go_wp2_with fail
  go_loopw [7] (fun s7 wr => VQR w D t l s7 wr) (fun s7 _ => l.length - (intOf s7).toNat)
  case atStart => exact ⟨0, _, _, Nat.zero_le _, rfl, HVQ.out, by simp⟩
  case round =>
    obtain ⟨k, ⟨ak, ck, sk, dk⟩, tk, hk, rfl, g, hp⟩ := hrel
    have G := Lib.hid g; have HP := Lib.hid hp
    by_cases hlt : k < l.length
    · obtain ⟨ad, z, hA, hab, hz, hc⟩ := HRI.out.at_ (k := k) hlt
      have hdr : l.drop k = z :: l.drop (k + 1) := by rw [List.drop_eq_getElem_cons hlt]; congr 1; exact Option.some.inj ((List.getElem?_eq_getElem hlt).symm.trans hz)
      have HDR := Lib.hid hdr
      subst hA
      have hck := fun (X : World) (hX : Below wr.heap.size wr X) => ((g.bel.trans (hX.mono g.bel.size)).cell (p := ad.add k) (by simpa [block_of_add] using hab)).trans hc
      have hlti : (k : Int) < (l.length : Int) := by omega
      have hms := fun (X : World) (hX : Below wr.heap.size wr X) => (g.b2.below hX g.b2.lt)
      obtain ⟨x, hx⟩ : ∃ x, x = if tk.stack.length < 16 then pushT tk z else tk := ⟨_, rfl⟩
      have hpu := fun (X : World) (hX : Below wr.heap.size wr X) => refPush_all ⟨ak, ck, sk, dk⟩ tk z X (fun i => ((D i ∧ i < w.heap.size) ∨ w.heap.size + 1 + 1 + 1 ≤ i) ∧ i < wr.heap.size) ((g.rt.mono fun i h hl => ⟨h, hl⟩).below hX) g.len x hx
      have KS : ∀ X, Below wr.heap.size wr X → X.cell? ⟨w.heap.size + 1 + 1, 0, none⟩ = some (.int .i64 tk.state) ∧ X.cell? ⟨w.heap.size + 1 + 1, 1, none⟩ = some (.int .i64 tk.on) ∧ X.cell? ⟨w.heap.size + 1 + 1, 2, none⟩ = some (.slice ak tk.frames.length ck) ∧ X.cell? ⟨w.heap.size + 1 + 1, 3, none⟩ = some (.slice sk tk.stack.length dk) ∧ X.cell? ⟨w.heap.size + 1 + 1, 4, none⟩ = some (.int .i64 tk.code) ∧ X.cell? (ad.add k) = some (.int .i64 z) := fun X hX => ⟨((hms X hX).cell 0).trans rfl, ((hms X hX).cell 1).trans rfl, ((hms X hX).cell 2).trans rfl, ((hms X hX).cell 3).trans rfl, ((hms X hX).cell 4).trans rfl, hck X hX⟩
      obtain ⟨m0, m1, m2, m3, m4, m5⟩ := KS wr (Below.refl _ _)
      have HKS := Lib.hid KS; have HPU := Lib.hid hpu; have HX := Lib.hid hx
      obtain ⟨bb, hbb⟩ : ∃ b, b = decide (tk.stack.length < 16) := ⟨_, rfl⟩
      rw [← hbb] at HPU
      have HBB := Lib.hid hbb
      have hlt2 := g.b2.lt
      have hzz := g.bel.size
      clear g hp hz hc hdr hab hms hck hpu hx hbb KS
      go_upto_region 5 with fail
      go_cut [8, 9] (fun s8 s9 wx => VQC wr (fun i => ((D i ∧ i < w.heap.size) ∨ w.heap.size + 1 + 1 + 1 ≤ i) ∧ i < wr.heap.size) x bb s8 s9 wx)
      case first =>
        go_region_held3 (fun X => X.cell? ⟨w.heap.size + 1 + 1, 0, none⟩ = some (.int .i64 tk.state) ∧ X.cell? ⟨w.heap.size + 1 + 1, 1, none⟩ = some (.int .i64 tk.on) ∧ X.cell? ⟨w.heap.size + 1 + 1, 2, none⟩ = some (.slice ak tk.frames.length ck) ∧ X.cell? ⟨w.heap.size + 1 + 1, 3, none⟩ = some (.slice sk tk.stack.length dk) ∧ X.cell? ⟨w.heap.size + 1 + 1, 4, none⟩ = some (.int .i64 tk.code) ∧ X.cell? (ad.add k) = some (.int .i64 z))
          (first | (exact HKS.out _ (by repeat (first | assumption | exact Below.refl _ _ | refine Below.drew ?_ | refine Below.setCell ?_ (by simp <;> omega) _ | refine Below.alloc ?_ (by have := hbq.size; simp <;> omega) _ | refine Below.alloc ?_ (by simp <;> omega) _))))
          (first
            | (go_simp; go_at_call 40; refine (HPU.out _ (by repeat (first | assumption | exact Below.refl _ _ | refine Below.drew ?_ | refine Below.setCell ?_ (by simp <;> omega) _ | refine Below.alloc ?_ (by have := hbq.size; simp <;> omega) _ | refine Below.alloc ?_ (by simp <;> omega) _))).mono ?_; rintro en w1 ⟨⟨aj, cj, sj, dj⟩, rfl, hrt, h4⟩
               have hbq : Below wr.heap.size wr w1 := Below.trans (by repeat (first | exact Below.refl _ _ | refine Below.drew ?_ | refine Below.alloc ?_ (by simp <;> omega) _)) (h4.mono (by simp <;> omega))
               obtain ⟨hcc, hff⟩ := bcellV h4
               have hzz1 := h4.size
               simp at hzz1))
        all_goals
          go_wp2_with fail
          go_meet
          first
            | exact ⟨_, ⟨aj, cj, sj, dj⟩, rfl, rfl, hbq.size, Blk.new w1 _ _, (hrt.mono (fun i hi hl => by rcases hi with hi | hi; exact .inl hi; exact .inr ⟨by simp at hi; omega, by omega⟩)).alloc _, hbq.alloc (by have := hbq.size; omega) _⟩
            | (have hf := (Fr.refl (fun i => i = wr.heap.size) w1).set5 (g := wr.heap.size) (.inl rfl) (.int .i64 x.state) (.int .i64 x.on) (.slice aj x.frames.length cj) (.slice sj x.stack.length dj) (.int .i64 x.code)
               have hnb := Blk.new wr 29 #[.int .i64 0, .int .i64 0, .slice none 0 0, .slice none 0 0, .int .i64 0]
               refine ⟨_, ⟨aj, cj, sj, dj⟩, rfl, rfl, Nat.le_refl _, ((by first | exact hnb.below h4 (by simp) | exact (hnb.drew).below h4 (by simp) : Blk w1 wr.heap.size 29 #[.int .i64 0, .int .i64 0, .slice none 0 0, .slice none 0 0, .int .i64 0]).set5 _ _ _ _ _), (hrt.keep fun q hq hl => hf.cell hl (fun e => ?_)).mono (fun i hi hl => ?_), hbq.trans (hf.below hbq.size (fun i e => by omega))⟩
               · rcases hq with hq | hq
                 · have := hq.2; omega
                 · simp at hq; omega
               · rcases hi with hi | hi
                 · exact .inl hi
                 · simp at hi; exact .inr ⟨by omega, by omega⟩)
            | fail
      case rest =>
        obtain ⟨ab, ⟨aj, cj, sj, dj⟩, rfl, rfl, hab, hbk, hrt, hbw⟩ := hcut
        clear m0 m1 m2 m3 m4 m5 HKS HPU hlti hlt2 hzz
        have hb1 := G.out.b1.below hbw G.out.b1.lt
        have hb2 := G.out.b2.below hbw G.out.b2.lt
        by_cases h16 : tk.stack.length < 16
        · have hxe : x = pushT tk z := by rw [HX.out, if_pos h16]
          have hbe : bb = true := by rw [HBB.out, decide_eq_true h16]
          subst hxe hbe
          have hst := G.out.step hbw (hrt.mono (fun i hi hl => by rcases hi with hi | hi; exact .inl hi.1; exact .inr hi.1)) (lens_push z G.out.len h16)
          have hpe : pushAll t l = pushAll (pushT tk z) (l.drop (k + 1)) := by rw [HP.out, HDR.out]; simp [pushAll, h16]
          have HST := Lib.hid hst; have HPE := Lib.hid hpe
          generalize pushT tk z = x at *
          have x0 : wc.cell? ⟨ab, 0, none⟩ = some (.int .i64 x.state) := ((hbk).cell 0).trans rfl
          have x1 : wc.cell? ⟨ab, 1, none⟩ = some (.int .i64 x.on) := ((hbk).cell 1).trans rfl
          have x2 : wc.cell? ⟨ab, 2, none⟩ = some (.slice aj x.frames.length cj) := ((hbk).cell 2).trans rfl
          have x3 : wc.cell? ⟨ab, 3, none⟩ = some (.slice sj x.stack.length dj) := ((hbk).cell 3).trans rfl
          have x4 : wc.cell? ⟨ab, 4, none⟩ = some (.int .i64 x.code) := ((hbk).cell 4).trans rfl
          have m0 : wc.cell? ⟨w.heap.size + 1 + 1, 0, none⟩ = some (.int .i64 tk.state) := ((hb2).cell 0).trans rfl
          have mz0 : wc.frozen? ⟨w.heap.size + 1 + 1, 0, none⟩ = false := (hb2).frozen 0
          have m1 : wc.cell? ⟨w.heap.size + 1 + 1, 1, none⟩ = some (.int .i64 tk.on) := ((hb2).cell 1).trans rfl
          have mz1 : wc.frozen? ⟨w.heap.size + 1 + 1, 1, none⟩ = false := (hb2).frozen 1
          have m2 : wc.cell? ⟨w.heap.size + 1 + 1, 2, none⟩ = some (.slice ak tk.frames.length ck) := ((hb2).cell 2).trans rfl
          have mz2 : wc.frozen? ⟨w.heap.size + 1 + 1, 2, none⟩ = false := (hb2).frozen 2
          have m3 : wc.cell? ⟨w.heap.size + 1 + 1, 3, none⟩ = some (.slice sk tk.stack.length dk) := ((hb2).cell 3).trans rfl
          have mz3 : wc.frozen? ⟨w.heap.size + 1 + 1, 3, none⟩ = false := (hb2).frozen 3
          have m4 : wc.cell? ⟨w.heap.size + 1 + 1, 4, none⟩ = some (.int .i64 tk.code) := ((hb2).cell 4).trans rfl
          have mz4 : wc.frozen? ⟨w.heap.size + 1 + 1, 4, none⟩ = false := (hb2).frozen 4
          have hlt1 := hb2.lt
          have hlt3 := hbk.lt
          have hne : ab ≠ w.heap.size + 1 + 1 := by have := G.out.b2.lt; omega
          clear hb1 hb2 hbk hrt hbw hst hpe G HP HDR h16 hab HX HBB
          go_wp2_with fail
          exact ⟨⟨k + 1, _, _, by omega, by go_num, HST.out, HPE.out⟩, by simp [intOf]; omega⟩
        · have hbe : bb = false := by rw [HBB.out, decide_eq_false h16]
          subst hbe
          have hpe : pushAll t l = (⟨9, 0, [], [], 2⟩, false) := by rw [HP.out, HDR.out]; simp [pushAll, h16]
          have hbl := G.out.bel.trans (hbw.mono G.out.bel.size)
          have HPE := Lib.hid hpe; have HB1 := Lib.hid hb1; have HBL0 := Lib.hid hbl
          clear hb1 hb2 hbk hrt hbw hbl hpe G HP HDR h16 hab HX HBB
          go_wp2_with fail
          refine (refEnd_any 2 _).mono ?_
          rintro e W3 ⟨rfl, hb⟩
          have hbr := HB1.out.below hb HB1.out.lt
          have hbel := HBL0.out.trans (hb.mono HBL0.out.size)
          have HBR := Lib.hid hbr; have HBL := Lib.hid hbel
          have m0 : W3.cell? ⟨w.heap.size + 1, 0, none⟩ = some (.int .i64 0) := ((hbr).cell 0).trans rfl
          have mz0 : W3.frozen? ⟨w.heap.size + 1, 0, none⟩ = false := (hbr).frozen 0
          have m1 : W3.cell? ⟨w.heap.size + 1, 1, none⟩ = some (.int .i64 0) := ((hbr).cell 1).trans rfl
          have mz1 : W3.frozen? ⟨w.heap.size + 1, 1, none⟩ = false := (hbr).frozen 1
          have m2 : W3.cell? ⟨w.heap.size + 1, 2, none⟩ = some (.slice none 0 0) := ((hbr).cell 2).trans rfl
          have mz2 : W3.frozen? ⟨w.heap.size + 1, 2, none⟩ = false := (hbr).frozen 2
          have m3 : W3.cell? ⟨w.heap.size + 1, 3, none⟩ = some (.slice none 0 0) := ((hbr).cell 3).trans rfl
          have mz3 : W3.frozen? ⟨w.heap.size + 1, 3, none⟩ = false := (hbr).frozen 3
          have m4 : W3.cell? ⟨w.heap.size + 1, 4, none⟩ = some (.int .i64 0) := ((hbr).cell 4).trans rfl
          have mz4 : W3.frozen? ⟨w.heap.size + 1, 4, none⟩ = false := (hbr).frozen 4
          have hlt2 := hbr.lt
          clear hbr hbel hb
          go_wp2_with fail
          have hf := (Fr.refl (fun i => i = w.heap.size + 1) W3).set5 (g := w.heap.size + 1) (.inl rfl) (.int .i64 9) (.int .i64 0) (.slice none 0 0) (.slice none 0 0) (.int .i64 2)
          refine bodyPost_ret (v := .tuple #[.agg #[.int .i64 9, .int .i64 0, .slice none 0 0, .slice none 0 0, .int .i64 2], .bool false]) (results_cell_slot rfl _ _ (w.heap.size + 1) 29 _ (0, 0) _ _ rfl rfl (HBR.out.set5 (.int .i64 9) (.int .i64 0) (.slice none 0 0) (.slice none 0 0) (.int .i64 2)) Try.underlying29 rfl (by kernel_rfl)) rfl ?_
          refine ⟨⟨none, 0, none, 0⟩, by rw [HPE.out]; rfl, ?_, HBL.out.trans (hf.below HBL.out.size (fun i hi => by omega))⟩
          rw [HPE.out]
          exact (dead_rt 2 _).mono fun i hi _ => hi.elim
    · have hkn : k = l.length := by omega
      have hpe : pushAll t l = (tk, true) := by rw [HP.out, hkn, List.drop_length]; rfl
      have HPE := Lib.hid hpe
      have hlti : ¬ (k : Int) < (l.length : Int) := by omega
      have m0 : wr.cell? ⟨w.heap.size + 1 + 1, 0, none⟩ = some (.int .i64 tk.state) := ((g.b2).cell 0).trans rfl
      have m1 : wr.cell? ⟨w.heap.size + 1 + 1, 1, none⟩ = some (.int .i64 tk.on) := ((g.b2).cell 1).trans rfl
      have m2 : wr.cell? ⟨w.heap.size + 1 + 1, 2, none⟩ = some (.slice ak tk.frames.length ck) := ((g.b2).cell 2).trans rfl
      have m3 : wr.cell? ⟨w.heap.size + 1 + 1, 3, none⟩ = some (.slice sk tk.stack.length dk) := ((g.b2).cell 3).trans rfl
      have m4 : wr.cell? ⟨w.heap.size + 1 + 1, 4, none⟩ = some (.int .i64 tk.code) := ((g.b2).cell 4).trans rfl
      have o0 : wr.cell? ⟨w.heap.size + 1, 0, none⟩ = some (.int .i64 0) := ((g.b1).cell 0).trans rfl
      have oz0 : wr.frozen? ⟨w.heap.size + 1, 0, none⟩ = false := (g.b1).frozen 0
      have o1 : wr.cell? ⟨w.heap.size + 1, 1, none⟩ = some (.int .i64 0) := ((g.b1).cell 1).trans rfl
      have oz1 : wr.frozen? ⟨w.heap.size + 1, 1, none⟩ = false := (g.b1).frozen 1
      have o2 : wr.cell? ⟨w.heap.size + 1, 2, none⟩ = some (.slice none 0 0) := ((g.b1).cell 2).trans rfl
      have oz2 : wr.frozen? ⟨w.heap.size + 1, 2, none⟩ = false := (g.b1).frozen 2
      have o3 : wr.cell? ⟨w.heap.size + 1, 3, none⟩ = some (.slice none 0 0) := ((g.b1).cell 3).trans rfl
      have oz3 : wr.frozen? ⟨w.heap.size + 1, 3, none⟩ = false := (g.b1).frozen 3
      have o4 : wr.cell? ⟨w.heap.size + 1, 4, none⟩ = some (.int .i64 0) := ((g.b1).cell 4).trans rfl
      have oz4 : wr.frozen? ⟨w.heap.size + 1, 4, none⟩ = false := (g.b1).frozen 4
      have hl1 := g.b1.lt
      have hl2 := g.b2.lt
      clear g hp hpe
      go_wp2_with fail
      have hf := (Fr.refl (fun i => i = w.heap.size + 1) wr).set5 (g := w.heap.size + 1) (.inl rfl) (.int .i64 tk.state) (.int .i64 tk.on) (.slice ak tk.frames.length ck) (.slice sk tk.stack.length dk) (.int .i64 tk.code)
      refine bodyPost_ret (v := .tuple #[.agg #[.int .i64 tk.state, .int .i64 tk.on, .slice ak tk.frames.length ck, .slice sk tk.stack.length dk, .int .i64 tk.code], .bool true]) (results_cell_slot rfl _ _ (w.heap.size + 1) 29 _ (0, 0) _ _ rfl rfl (G.out.b1.set5 _ _ _ _ _) Try.underlying29 rfl (by kernel_rfl)) rfl ?_
      refine ⟨⟨ak, ck, sk, dk⟩, by rw [HPE.out], ?_, G.out.bel.trans (hf.below G.out.bel.size (fun i hi => by omega))⟩
      rw [HPE.out]
      exact (G.out.rt.keep fun q hq hl => hf.cell hl (fun e => by rcases hq with hq | hq <;> omega)).mono fun i hi _ => by rcases hi with hi | hi; exact .inl hi.1; exact .inr (by omega)
theorem push_all_ok : ∀ (l : List Int) (t : TV), t.stack.length ≤ 16 → (pushAll t l).2 = decide (t.stack.length + l.length ≤ 16)
  | [], t, h => by simp [pushAll, h]
  | v :: r, t, h => by
    unfold pushAll
    by_cases h1 : t.stack.length < 16
    · rw [if_pos h1, push_all_ok r (pushT t v) (by simp [pushT]; omega)]
      simp [pushT]
      omega
    · rw [if_neg h1]
      simp
      omega
theorem push_all_lens : ∀ (l : List Int) {t : TV}, LensT t → LensT (pushAll t l).1
  | [], t, h => h
  | v :: r, t, h => by
    unfold pushAll
    by_cases h1 : t.stack.length < 16
    · rw [if_pos h1]
      exact push_all_lens r (lens_push v h h1)
    · rw [if_neg h1]
      exact ⟨by simp, by simp, by simp⟩
theorem reads_take {w : World} {B : Nat} {A : Option Addr} {n : Nat} {l : List Int} (h : Reads w B 1 A n (IS l)) (m : Nat) (hm : m ≤ n) : Reads w B 1 A m (IS (l.take m)) := by
  have hl := h.1
  simp [IS] at hl
  refine ⟨by simp [IS]; omega, fun h0 => ?_⟩
  obtain ⟨ad, e, hb, hc⟩ := h.2 (by omega)
  refine ⟨ad, e, hb, fun j u hj => hc j u ?_⟩
  have hjm : j < m := by
    have := (List.getElem?_eq_some_iff.1 hj).1
    simp [IS] at this
    omega
  rw [← hj]
  simp [IS, hjm]
set_option maxRecDepth 100000 in
set_option maxHeartbeats 40000000 in
theorem walk (hd0 : PH) (q0 : PV) (ht1 : TH) (t1 : TV) (a2 : Option Addr) (len2 cap2 : Nat) (z2 : List Int) (w : World) (w0 : RP w w.heap.size hd0 q0 ∧ Fit q0 ∧ Lens q0) (w1 : RT w (fun _ => True) ht1 t1 ∧ FitT t1 ∧ LenT t1) (w2 : IsRow .i64 w a2 len2 cap2 z2) :
    Calls Try.prog 4 #[.agg #[.slice hd0.fA q0.funcs.length hd0.fc, .int .i64 q0.mutexes, .slice hd0.cA q0.conds.length hd0.cc, .slice hd0.sA q0.semas.length hd0.sc, .slice hd0.hA q0.chans.length hd0.hc, .slice hd0.xA q0.choices.length hd0.xc, .int .i64 q0.threads], .agg #[.int .i64 t1.state, .int .i64 t1.on, .slice ht1.fA t1.frames.length ht1.fc, .slice ht1.sA t1.stack.length ht1.sc, .int .i64 t1.code], .slice a2 len2 cap2] w fun e w' => e = .returned (.bool true) ∧ Below w.heap.size w w' := by
  obtain ⟨hrp, hfit, hlen⟩ := w0
  obtain ⟨hrt, hfitT, hlenT⟩ := w1
  obtain ⟨l, hri, hfl, hn2⟩ := row_ri w2
  have HRI := Lib.hid hri
  clear hri hfl hn2
  have HR := Lib.hid hrp; have HF := Lib.hid hfit; have HL := Lib.hid hlen; have HT := Lib.hid hrt; have HFT := Lib.hid hfitT; have HLT := Lib.hid hlenT
  clear hrp hfit hlen hrt hfitT hlenT w2
  go_enter Try.func4, Try.ntmps4
  go_wp2_with fail
  refine (good_any hd0 q0 _ w.heap.size ((HR.out.alloc (Nat.le_refl _) _).alloc (by simp) _) (by simp; omega) HF.out).mono ?_
  rintro e w1 hm
  obtain ⟨hg, rfl, hrp, hb⟩ := hm.rp
  have hgl := good_lens q0
  have hgmay := good_may q0 HF.out
  have hgn := good_funcs_len q0
  have hgf := good_few q0
  have hgc := good_code_len q0
  clear hm
  generalize good q0 = g at *
  obtain ⟨fA, fc, cA, cc, sA, sc, hA, hc, xA, xc⟩ := hg
  simp only at hrp ⊢
  have HGMAY := Lib.hid hgmay
  clear hgmay
  have hb0 : Below w.heap.size w ((w.alloc (.cells #[.slice hd0.fA q0.funcs.length hd0.fc, .int .i64 q0.mutexes, .slice hd0.cA q0.conds.length hd0.cc, .slice hd0.sA q0.semas.length hd0.sc, .slice hd0.hA q0.chans.length hd0.hc, .slice hd0.xA q0.choices.length hd0.xc, .int .i64 q0.threads] 26)).alloc (.cells #[.int .i64 t1.state, .int .i64 t1.on, .slice ht1.fA t1.frames.length ht1.fc, .slice ht1.sA t1.stack.length ht1.sc, .int .i64 t1.code] 29)) := ((Below.refl _ _).alloc (Nat.le_refl _) _).alloc (by simp) _
  have hbk : Blk ((w.alloc (.cells #[.slice hd0.fA q0.funcs.length hd0.fc, .int .i64 q0.mutexes, .slice hd0.cA q0.conds.length hd0.cc, .slice hd0.sA q0.semas.length hd0.sc, .slice hd0.hA q0.chans.length hd0.hc, .slice hd0.xA q0.choices.length hd0.xc, .int .i64 q0.threads] 26)).alloc (.cells #[.int .i64 t1.state, .int .i64 t1.on, .slice ht1.fA t1.frames.length ht1.fc, .slice ht1.sA t1.stack.length ht1.sc, .int .i64 t1.code] 29)) (w.heap.size + 1) 29 #[.int .i64 t1.state, .int .i64 t1.on, .slice ht1.fA t1.frames.length ht1.fc, .slice ht1.sA t1.stack.length ht1.sc, .int .i64 t1.code] := by
    simpa using Blk.new (w.alloc (.cells #[.slice hd0.fA q0.funcs.length hd0.fc, .int .i64 q0.mutexes, .slice hd0.cA q0.conds.length hd0.cc, .slice hd0.sA q0.semas.length hd0.sc, .slice hd0.hA q0.chans.length hd0.hc, .slice hd0.xA q0.choices.length hd0.xc, .int .i64 q0.threads] 26)) 29 #[.int .i64 t1.state, .int .i64 t1.on, .slice ht1.fA t1.frames.length ht1.fc, .slice ht1.sA t1.stack.length ht1.sc, .int .i64 t1.code]
  have hbw1 : Below w.heap.size w w1 := hb0.trans (hb.mono (by simp; omega))
  have hbk1 := (hbk.below hb (by simp)).alloc (.cells #[.slice fA g.funcs.length fc, .int .i64 g.mutexes, .slice cA g.conds.length cc, .slice sA g.semas.length sc, .slice hA g.chans.length hc, .slice xA g.choices.length xc, .int .i64 g.threads] 26)
  have hT1 := HT.out.below (hbw1.alloc hbw1.size (.cells #[.slice fA g.funcs.length fc, .int .i64 g.mutexes, .slice cA g.conds.length cc, .slice sA g.semas.length sc, .slice hA g.chans.length hc, .slice xA g.choices.length xc, .int .i64 g.threads] 26))
  have z1 : w.heap.size + 2 ≤ w1.heap.size := by have := hb.size; simpa using this
  have hPB : PB w (w1.alloc (.cells #[.slice fA g.funcs.length fc, .int .i64 g.mutexes, .slice cA g.conds.length cc, .slice sA g.semas.length sc, .slice hA g.chans.length hc, .slice xA g.choices.length xc, .int .i64 g.threads] 26)) w1.heap.size w1.heap.size ⟨fA, fc, cA, cc, sA, sc, hA, hc, xA, xc⟩ g := ⟨Blk.new _ _ _, hrp.alloc (Nat.le_refl _) _, hbw1.alloc hbw1.size _, by simp⟩
  obtain ⟨gb, hgb⟩ : ∃ b, b = w1.heap.size := ⟨_, rfl⟩
  have HPB := Lib.hid hPB; have HB1 := Lib.hid hbk1; have HT1 := Lib.hid hT1; have HGL := Lib.hid hgl; have HGF := Lib.hid hgf; have HGC := Lib.hid hgc
  clear hrp hb hgl hgf hgc hb0 hbk hbw1 hbk1 hT1 hPB
  go_upto_region 2 with fail
  obtain ⟨W2, hW2⟩ : ∃ W, W = w1.alloc (.cells #[.slice fA g.funcs.length fc, .int .i64 g.mutexes, .slice cA g.conds.length cc, .slice sA g.semas.length sc, .slice hA g.chans.length hc, .slice xA g.choices.length xc, .int .i64 g.threads] 26) := ⟨_, rfl⟩
  rw [← hW2] at HPB HB1 HT1 ⊢
  rw [← hgb] at HPB ⊢
  clear hW2
  have p0 : W2.cell? ⟨gb, 0, none⟩ = some (.slice fA g.funcs.length fc) := (HPB.out.pb.cell 0).trans rfl
  have p1 : W2.cell? ⟨gb, 1, none⟩ = some (.int .i64 g.mutexes) := (HPB.out.pb.cell 1).trans rfl
  have p2 : W2.cell? ⟨gb, 2, none⟩ = some (.slice cA g.conds.length cc) := (HPB.out.pb.cell 2).trans rfl
  have p3 : W2.cell? ⟨gb, 3, none⟩ = some (.slice sA g.semas.length sc) := (HPB.out.pb.cell 3).trans rfl
  have p4 : W2.cell? ⟨gb, 4, none⟩ = some (.slice hA g.chans.length hc) := (HPB.out.pb.cell 4).trans rfl
  have p5 : W2.cell? ⟨gb, 5, none⟩ = some (.slice xA g.choices.length xc) := (HPB.out.pb.cell 5).trans rfl
  have p6 : W2.cell? ⟨gb, 6, none⟩ = some (.int .i64 g.threads) := (HPB.out.pb.cell 6).trans rfl
  have y0 : W2.cell? ⟨w.heap.size + 1, 0, none⟩ = some (.int .i64 t1.state) := (HB1.out.cell 0).trans rfl
  have y1 : W2.cell? ⟨w.heap.size + 1, 1, none⟩ = some (.int .i64 t1.on) := (HB1.out.cell 1).trans rfl
  have y2 : W2.cell? ⟨w.heap.size + 1, 2, none⟩ = some (.slice ht1.fA t1.frames.length ht1.fc) := (HB1.out.cell 2).trans rfl
  have y3 : W2.cell? ⟨w.heap.size + 1, 3, none⟩ = some (.slice ht1.sA t1.stack.length ht1.sc) := (HB1.out.cell 3).trans rfl
  have y4 : W2.cell? ⟨w.heap.size + 1, 4, none⟩ = some (.int .i64 t1.code) := (HB1.out.cell 4).trans rfl
  have zg := HPB.out.pb.lt
  clear hgb z1
  go_wp2_with fail
  refine (good4_any ⟨fA, fc, cA, cc, sA, sc, hA, hc, xA, xc⟩ g W2 gb HPB.out.rp HPB.out.hBP HGF.out HGL.out (fun f hf => by have := HGC.out f hf; omega) hgn.1 ht1 t1 _ HT1.out HFT.out HLT.out).mono ?_
  rintro e w3 ⟨ht, rfl, hrt3, hb3⟩
  have hmay := goodT_may HGF.out hgn.1 t1
  have hst : (goodT g t1).state = 0 := rfl
  generalize goodT g t1 = x at *
  obtain ⟨tA, tc, kA, kc⟩ := ht
  simp only at hrt3 ⊢
  have hTB := TB.new hrt3
  have hPB3 := (HPB.out.below hb3).below ((Below.refl _ _).alloc (Nat.le_refl _) (.cells #[.int .i64 x.state, .int .i64 x.on, .slice tA x.frames.length tc, .slice kA x.stack.length kc, .int .i64 x.code] 29))
  have hlx := lenT_may hmay
  obtain ⟨xb, hxb⟩ : ∃ b, b = w3.heap.size := ⟨_, rfl⟩
  have HTB := Lib.hid hTB; have HPB3 := Lib.hid hPB3; have HMAY := Lib.hid hmay; have HST := Lib.hid hst
  clear hTB hPB3 hmay hst hrt3 hb3 HPB p0 p1 p2 p3 p4 p5 p6 y0 y1 y2 y3 y4 zg HB1 HT1
  go_upto_region 3 with fail
  obtain ⟨W3, hW3⟩ : ∃ W, W = w3.alloc (.cells #[.int .i64 x.state, .int .i64 x.on, .slice tA x.frames.length tc, .slice kA x.stack.length kc, .int .i64 x.code] 29) := ⟨_, rfl⟩
  rw [← hW3] at HTB HPB3 ⊢
  rw [← hxb] at HTB ⊢
  clear hW3 hxb
  have hlt := lensT_may HGF.out HMAY.out
  have hne9 : x.state ≠ 9 := by rw [HST.out]; decide
  have HLX := Lib.hid hlx; have HLXT := Lib.hid hlt; have HNE := Lib.hid hne9
  clear hlx hlt hne9
  have x0 : W3.cell? ⟨xb, 0, none⟩ = some (.int .i64 x.state) := (HTB.out.tb.cell 0).trans rfl
  have x1 : W3.cell? ⟨xb, 1, none⟩ = some (.int .i64 x.on) := (HTB.out.tb.cell 1).trans rfl
  have x2 : W3.cell? ⟨xb, 2, none⟩ = some (.slice tA x.frames.length tc) := (HTB.out.tb.cell 2).trans rfl
  have x3 : W3.cell? ⟨xb, 3, none⟩ = some (.slice kA x.stack.length kc) := (HTB.out.tb.cell 3).trans rfl
  have x4 : W3.cell? ⟨xb, 4, none⟩ = some (.int .i64 x.code) := (HTB.out.tb.cell 4).trans rfl
  have zx := HTB.out.tb.lt
  have hc2 : len2 ≤ cap2 := HRI.out.2.1
  have hrw : RI W3 w.heap.size a2 len2 cap2 l := HRI.out.keep (fun q hq => HPB3.out.bel.cell hq)
  have hzz := HPB3.out.bel.size
  have HRW := Lib.hid hrw; have HZZ := Lib.hid hzz
  clear hrw hzz HRI
  by_cases hgt : 20 < len2
  · have hgt2 : (20 : Int) < (len2 : Int) := by omega
    have hcc : (20 : Int) ≤ (cap2 : Int) := by omega
    obtain ⟨lm, hlm0⟩ : ∃ lm, lm = l.take 20 := ⟨_, rfl⟩
    have hrm : RI W3 W3.heap.size a2 20 cap2 lm := by
      rw [hlm0]
      obtain ⟨h1, h2, h3⟩ := HRW.out.more HZZ.out
      refine ⟨by simp; omega, by omega, ?_⟩
      exact reads_take h3 20 (by omega)
    clear hlm0
    have hlm : lm.length = 20 := hrm.1
    have hpp := push_all_ok lm x (by have := HLX.out.2; omega)
    rw [hlm] at hpp
    have hp1 := vtell_any ⟨tA, tc, kA, kc⟩ x W3 _ HTB.out.rt HLXT.out lm a2 20 cap2 hrm (by omega)
    have hp2 := fun (W : World) (hb : Below W3.heap.size W3 W) => refTell5_any ⟨tA, tc, kA, kc⟩ x lm a2 20 cap2 W _ (HTB.out.rt.below hb) HLXT.out ((hrm.keep (fun q hq => hb.cell hq)).more hb.size) (by omega)
    have hln := push_all_lens lm HLXT.out
    obtain ⟨y, ok, hyo⟩ : ∃ y ok, pushAll x lm = (y, ok) := ⟨_, _, rfl⟩
    rw [hyo] at hp1 hp2 hln hpp
    simp only at hp1 hp2 hln hpp
    have HP1 := Lib.hid hp1; have HP2 := Lib.hid hp2; have HPP := Lib.hid hpp; have HLN := Lib.hid hln
    have hsl := HLX.out.2
    have hxl : x.stack.length ≤ 16 := by omega
    clear hp1 hp2 hln hpp hlm hrm hyo
    go_wp2_with fail
    refine HP1.out.mono ?_
    rintro e w4 ⟨⟨yA, yc, uA, uc⟩, rfl, hrt4, hb4⟩
    try simp only at hrt4
    obtain ⟨yb, hyb⟩ : ∃ b, b = w4.heap.size := ⟨_, rfl⟩
    obtain ⟨W4, hW4⟩ : ∃ W, W = w4.alloc (.cells #[.int .i64 y.state, .int .i64 y.on, .slice yA y.frames.length yc, .slice uA y.stack.length uc, .int .i64 y.code] 29) := ⟨_, rfl⟩
    have ha4 : Below w4.heap.size w4 W4 := by rw [hW4]; exact (Below.refl _ _).alloc (Nat.le_refl _) _
    have hb34 : Below W3.heap.size W3 W4 := hb4.trans (ha4.mono hb4.size)
    have ky : Blk W4 yb 29 #[.int .i64 y.state, .int .i64 y.on, .slice yA y.frames.length yc, .slice uA y.stack.length uc, .int .i64 y.code] := by rw [hW4, hyb]; exact Blk.new _ _ _
    have hy4 := hrt4.below ha4
    have hx4 := HTB.out.below hb34
    have HY4 := Lib.hid hy4; have HX4 := Lib.hid hx4; have KY := Lib.hid ky; have HB34 := Lib.hid hb34; have HYB := Lib.hid hyb; have HW4 := Lib.hid hW4
    clear hrt4 hb4 hyb hW4 ha4 hb34 ky hy4 hx4 HP1 x0 x1 x2 x3 x4 zx
    go_upto_region 6 with fail
    rw [← HW4.out, ← HYB.out]
    clear HW4 HYB
    have x0 : W4.cell? ⟨xb, 0, none⟩ = some (.int .i64 x.state) := (HX4.out.tb.cell 0).trans rfl
    have x1 : W4.cell? ⟨xb, 1, none⟩ = some (.int .i64 x.on) := (HX4.out.tb.cell 1).trans rfl
    have x2 : W4.cell? ⟨xb, 2, none⟩ = some (.slice tA x.frames.length tc) := (HX4.out.tb.cell 2).trans rfl
    have x3 : W4.cell? ⟨xb, 3, none⟩ = some (.slice kA x.stack.length kc) := (HX4.out.tb.cell 3).trans rfl
    have x4 : W4.cell? ⟨xb, 4, none⟩ = some (.int .i64 x.code) := (HX4.out.tb.cell 4).trans rfl
    have hp2 := HP2.out W4 HB34.out
    have HP3 := Lib.hid hp2
    clear hp2 HP2
    go_wp2_with fail
    refine HP3.out.mono ?_
    rintro e w5 ⟨⟨zA, zc, vA, vc⟩, rfl, hrt5, hb5⟩
    try simp only at hrt5
    obtain ⟨zb, hzb⟩ : ∃ b, b = w5.heap.size := ⟨_, rfl⟩
    obtain ⟨W5, hW5⟩ : ∃ W, W = w5.alloc (.cells #[.int .i64 y.state, .int .i64 y.on, .slice zA y.frames.length zc, .slice vA y.stack.length vc, .int .i64 y.code] 29) := ⟨_, rfl⟩
    have ha5 : Below w5.heap.size w5 W5 := by rw [hW5]; exact (Below.refl _ _).alloc (Nat.le_refl _) _
    have hb45 : Below W4.heap.size W4 W5 := hb5.trans (ha5.mono hb5.size)
    have kz : Blk W5 zb 29 #[.int .i64 y.state, .int .i64 y.on, .slice zA y.frames.length zc, .slice vA y.stack.length vc, .int .i64 y.code] := by rw [hW5, hzb]; exact Blk.new _ _ _
    have ky5 := KY.out.below hb45 KY.out.lt
    have hx5 := HX4.out.below hb45
    have hsm := refSame_yes ⟨yA, yc, uA, uc⟩ ⟨zA, zc, vA, vc⟩ y W5 _ _ (HY4.out.below hb45) (hrt5.below ha5) HLN.out
    have hbw := HPB3.out.bel.trans ((HB34.out.trans (hb45.mono HB34.out.size)).mono HPB3.out.bel.size)
    have HSM := Lib.hid hsm; have HX5 := Lib.hid hx5; have KY5 := Lib.hid ky5; have KZ := Lib.hid kz; have HZB := Lib.hid hzb; have HW5 := Lib.hid hW5; have HBW := Lib.hid hbw
    clear hsm hx5 ky5 kz hzb hW5 hbw ha5 hb45 hrt5 hb5 HP3 x0 x1 x2 x3 x4 HX4 KY HY4
    go_upto_region 7 with fail
    rw [← HW5.out, ← HZB.out]
    clear HW5 HZB
    have x0 : W5.cell? ⟨xb, 0, none⟩ = some (.int .i64 x.state) := (HX5.out.tb.cell 0).trans rfl
    have x1 : W5.cell? ⟨xb, 1, none⟩ = some (.int .i64 x.on) := (HX5.out.tb.cell 1).trans rfl
    have x2 : W5.cell? ⟨xb, 2, none⟩ = some (.slice tA x.frames.length tc) := (HX5.out.tb.cell 2).trans rfl
    have x3 : W5.cell? ⟨xb, 3, none⟩ = some (.slice kA x.stack.length kc) := (HX5.out.tb.cell 3).trans rfl
    have x4 : W5.cell? ⟨xb, 4, none⟩ = some (.int .i64 x.code) := (HX5.out.tb.cell 4).trans rfl
    have y0 : W5.cell? ⟨yb, 0, none⟩ = some (.int .i64 y.state) := (KY5.out.cell 0).trans rfl
    have y1 : W5.cell? ⟨yb, 1, none⟩ = some (.int .i64 y.on) := (KY5.out.cell 1).trans rfl
    have y2 : W5.cell? ⟨yb, 2, none⟩ = some (.slice yA y.frames.length yc) := (KY5.out.cell 2).trans rfl
    have y3 : W5.cell? ⟨yb, 3, none⟩ = some (.slice uA y.stack.length uc) := (KY5.out.cell 3).trans rfl
    have y4 : W5.cell? ⟨yb, 4, none⟩ = some (.int .i64 y.code) := (KY5.out.cell 4).trans rfl
    have z0 : W5.cell? ⟨zb, 0, none⟩ = some (.int .i64 y.state) := (KZ.out.cell 0).trans rfl
    have z1 : W5.cell? ⟨zb, 1, none⟩ = some (.int .i64 y.on) := (KZ.out.cell 1).trans rfl
    have z2 : W5.cell? ⟨zb, 2, none⟩ = some (.slice zA y.frames.length zc) := (KZ.out.cell 2).trans rfl
    have z3 : W5.cell? ⟨zb, 3, none⟩ = some (.slice vA y.stack.length vc) := (KZ.out.cell 3).trans rfl
    have z4 : W5.cell? ⟨zb, 4, none⟩ = some (.int .i64 y.code) := (KZ.out.cell 4).trans rfl
    go_wp2_with fail
    refine HSM.out.mono ?_
    rintro e w6 ⟨rfl, hb6⟩
    have hx6 := HX5.out.below hb6
    have hbw6 := HBW.out.trans (hb6.mono HBW.out.size)
    clear x0 x1 x2 x3 x4 y0 y1 y2 y3 y4 z0 z1 z2 z3 z4
    have x0 : w6.cell? ⟨xb, 0, none⟩ = some (.int .i64 x.state) := (hx6.tb.cell 0).trans rfl
    have x1 : w6.cell? ⟨xb, 1, none⟩ = some (.int .i64 x.on) := (hx6.tb.cell 1).trans rfl
    have x2 : w6.cell? ⟨xb, 2, none⟩ = some (.slice tA x.frames.length tc) := (hx6.tb.cell 2).trans rfl
    have x3 : w6.cell? ⟨xb, 3, none⟩ = some (.slice kA x.stack.length kc) := (hx6.tb.cell 3).trans rfl
    have x4 : w6.cell? ⟨xb, 4, none⟩ = some (.int .i64 x.code) := (hx6.tb.cell 4).trans rfl
    have hok := HPP.out
    have HBW6 := Lib.hid hbw6
    clear hx6 hbw6 hb6 HSM
    have hle2 : decide ((x.stack.length : Int) + 20 ≤ 16) = ok := by rw [hok]; exact decide_eq_decide.2 (by omega)
    clear hok
    go_wp2_with fail
    refine (vlives_any _).mono ?_
    rintro e w7 ⟨rfl, hb7⟩
    go_wp2_with fail
    go_ret
    exact ⟨rfl, HBW6.out.trans (hb7.mono HBW6.out.size)⟩
  · have hgt2 : ¬ (20 : Int) < (len2 : Int) := by omega
    have hl20 : len2 ≤ 20 := by omega
    obtain ⟨lm, hlm0⟩ : ∃ lm, lm = l := ⟨_, rfl⟩
    have hrm : RI W3 W3.heap.size a2 len2 cap2 lm := by
      rw [hlm0]
      exact HRW.out.more HZZ.out
    clear hlm0
    have hlm : lm.length = len2 := hrm.1
    have hpp := push_all_ok lm x (by have := HLX.out.2; omega)
    rw [hlm] at hpp
    have hp1 := vtell_any ⟨tA, tc, kA, kc⟩ x W3 _ HTB.out.rt HLXT.out lm a2 len2 cap2 hrm (by omega)
    have hp2 := fun (W : World) (hb : Below W3.heap.size W3 W) => refTell5_any ⟨tA, tc, kA, kc⟩ x lm a2 len2 cap2 W _ (HTB.out.rt.below hb) HLXT.out ((hrm.keep (fun q hq => hb.cell hq)).more hb.size) (by omega)
    have hln := push_all_lens lm HLXT.out
    obtain ⟨y, ok, hyo⟩ : ∃ y ok, pushAll x lm = (y, ok) := ⟨_, _, rfl⟩
    rw [hyo] at hp1 hp2 hln hpp
    simp only at hp1 hp2 hln hpp
    have HP1 := Lib.hid hp1; have HP2 := Lib.hid hp2; have HPP := Lib.hid hpp; have HLN := Lib.hid hln
    have hsl := HLX.out.2
    have hxl : x.stack.length ≤ 16 := by omega
    clear hp1 hp2 hln hpp hlm hrm hyo
    go_wp2_with fail
    refine HP1.out.mono ?_
    rintro e w4 ⟨⟨yA, yc, uA, uc⟩, rfl, hrt4, hb4⟩
    try simp only at hrt4
    obtain ⟨yb, hyb⟩ : ∃ b, b = w4.heap.size := ⟨_, rfl⟩
    obtain ⟨W4, hW4⟩ : ∃ W, W = w4.alloc (.cells #[.int .i64 y.state, .int .i64 y.on, .slice yA y.frames.length yc, .slice uA y.stack.length uc, .int .i64 y.code] 29) := ⟨_, rfl⟩
    have ha4 : Below w4.heap.size w4 W4 := by rw [hW4]; exact (Below.refl _ _).alloc (Nat.le_refl _) _
    have hb34 : Below W3.heap.size W3 W4 := hb4.trans (ha4.mono hb4.size)
    have ky : Blk W4 yb 29 #[.int .i64 y.state, .int .i64 y.on, .slice yA y.frames.length yc, .slice uA y.stack.length uc, .int .i64 y.code] := by rw [hW4, hyb]; exact Blk.new _ _ _
    have hy4 := hrt4.below ha4
    have hx4 := HTB.out.below hb34
    have HY4 := Lib.hid hy4; have HX4 := Lib.hid hx4; have KY := Lib.hid ky; have HB34 := Lib.hid hb34; have HYB := Lib.hid hyb; have HW4 := Lib.hid hW4
    clear hrt4 hb4 hyb hW4 ha4 hb34 ky hy4 hx4 HP1 x0 x1 x2 x3 x4 zx
    go_upto_region 6 with fail
    rw [← HW4.out, ← HYB.out]
    clear HW4 HYB
    have x0 : W4.cell? ⟨xb, 0, none⟩ = some (.int .i64 x.state) := (HX4.out.tb.cell 0).trans rfl
    have x1 : W4.cell? ⟨xb, 1, none⟩ = some (.int .i64 x.on) := (HX4.out.tb.cell 1).trans rfl
    have x2 : W4.cell? ⟨xb, 2, none⟩ = some (.slice tA x.frames.length tc) := (HX4.out.tb.cell 2).trans rfl
    have x3 : W4.cell? ⟨xb, 3, none⟩ = some (.slice kA x.stack.length kc) := (HX4.out.tb.cell 3).trans rfl
    have x4 : W4.cell? ⟨xb, 4, none⟩ = some (.int .i64 x.code) := (HX4.out.tb.cell 4).trans rfl
    have hp2 := HP2.out W4 HB34.out
    have HP3 := Lib.hid hp2
    clear hp2 HP2
    go_wp2_with fail
    refine HP3.out.mono ?_
    rintro e w5 ⟨⟨zA, zc, vA, vc⟩, rfl, hrt5, hb5⟩
    try simp only at hrt5
    obtain ⟨zb, hzb⟩ : ∃ b, b = w5.heap.size := ⟨_, rfl⟩
    obtain ⟨W5, hW5⟩ : ∃ W, W = w5.alloc (.cells #[.int .i64 y.state, .int .i64 y.on, .slice zA y.frames.length zc, .slice vA y.stack.length vc, .int .i64 y.code] 29) := ⟨_, rfl⟩
    have ha5 : Below w5.heap.size w5 W5 := by rw [hW5]; exact (Below.refl _ _).alloc (Nat.le_refl _) _
    have hb45 : Below W4.heap.size W4 W5 := hb5.trans (ha5.mono hb5.size)
    have kz : Blk W5 zb 29 #[.int .i64 y.state, .int .i64 y.on, .slice zA y.frames.length zc, .slice vA y.stack.length vc, .int .i64 y.code] := by rw [hW5, hzb]; exact Blk.new _ _ _
    have ky5 := KY.out.below hb45 KY.out.lt
    have hx5 := HX4.out.below hb45
    have hsm := refSame_yes ⟨yA, yc, uA, uc⟩ ⟨zA, zc, vA, vc⟩ y W5 _ _ (HY4.out.below hb45) (hrt5.below ha5) HLN.out
    have hbw := HPB3.out.bel.trans ((HB34.out.trans (hb45.mono HB34.out.size)).mono HPB3.out.bel.size)
    have HSM := Lib.hid hsm; have HX5 := Lib.hid hx5; have KY5 := Lib.hid ky5; have KZ := Lib.hid kz; have HZB := Lib.hid hzb; have HW5 := Lib.hid hW5; have HBW := Lib.hid hbw
    clear hsm hx5 ky5 kz hzb hW5 hbw ha5 hb45 hrt5 hb5 HP3 x0 x1 x2 x3 x4 HX4 KY HY4
    go_upto_region 7 with fail
    rw [← HW5.out, ← HZB.out]
    clear HW5 HZB
    have x0 : W5.cell? ⟨xb, 0, none⟩ = some (.int .i64 x.state) := (HX5.out.tb.cell 0).trans rfl
    have x1 : W5.cell? ⟨xb, 1, none⟩ = some (.int .i64 x.on) := (HX5.out.tb.cell 1).trans rfl
    have x2 : W5.cell? ⟨xb, 2, none⟩ = some (.slice tA x.frames.length tc) := (HX5.out.tb.cell 2).trans rfl
    have x3 : W5.cell? ⟨xb, 3, none⟩ = some (.slice kA x.stack.length kc) := (HX5.out.tb.cell 3).trans rfl
    have x4 : W5.cell? ⟨xb, 4, none⟩ = some (.int .i64 x.code) := (HX5.out.tb.cell 4).trans rfl
    have y0 : W5.cell? ⟨yb, 0, none⟩ = some (.int .i64 y.state) := (KY5.out.cell 0).trans rfl
    have y1 : W5.cell? ⟨yb, 1, none⟩ = some (.int .i64 y.on) := (KY5.out.cell 1).trans rfl
    have y2 : W5.cell? ⟨yb, 2, none⟩ = some (.slice yA y.frames.length yc) := (KY5.out.cell 2).trans rfl
    have y3 : W5.cell? ⟨yb, 3, none⟩ = some (.slice uA y.stack.length uc) := (KY5.out.cell 3).trans rfl
    have y4 : W5.cell? ⟨yb, 4, none⟩ = some (.int .i64 y.code) := (KY5.out.cell 4).trans rfl
    have z0 : W5.cell? ⟨zb, 0, none⟩ = some (.int .i64 y.state) := (KZ.out.cell 0).trans rfl
    have z1 : W5.cell? ⟨zb, 1, none⟩ = some (.int .i64 y.on) := (KZ.out.cell 1).trans rfl
    have z2 : W5.cell? ⟨zb, 2, none⟩ = some (.slice zA y.frames.length zc) := (KZ.out.cell 2).trans rfl
    have z3 : W5.cell? ⟨zb, 3, none⟩ = some (.slice vA y.stack.length vc) := (KZ.out.cell 3).trans rfl
    have z4 : W5.cell? ⟨zb, 4, none⟩ = some (.int .i64 y.code) := (KZ.out.cell 4).trans rfl
    go_wp2_with fail
    refine HSM.out.mono ?_
    rintro e w6 ⟨rfl, hb6⟩
    have hx6 := HX5.out.below hb6
    have hbw6 := HBW.out.trans (hb6.mono HBW.out.size)
    clear x0 x1 x2 x3 x4 y0 y1 y2 y3 y4 z0 z1 z2 z3 z4
    have x0 : w6.cell? ⟨xb, 0, none⟩ = some (.int .i64 x.state) := (hx6.tb.cell 0).trans rfl
    have x1 : w6.cell? ⟨xb, 1, none⟩ = some (.int .i64 x.on) := (hx6.tb.cell 1).trans rfl
    have x2 : w6.cell? ⟨xb, 2, none⟩ = some (.slice tA x.frames.length tc) := (hx6.tb.cell 2).trans rfl
    have x3 : w6.cell? ⟨xb, 3, none⟩ = some (.slice kA x.stack.length kc) := (hx6.tb.cell 3).trans rfl
    have x4 : w6.cell? ⟨xb, 4, none⟩ = some (.int .i64 x.code) := (hx6.tb.cell 4).trans rfl
    have hok := HPP.out
    have HBW6 := Lib.hid hbw6
    clear hx6 hbw6 hb6 HSM
    have hle2 : decide ((x.stack.length : Int) + (len2 : Int) ≤ 16) = ok := by rw [hok]; exact decide_eq_decide.2 (by omega)
    clear hok
    go_wp2_with fail
    refine (vlives_any _).mono ?_
    rintro e w7 ⟨rfl, hb7⟩
    go_wp2_with fail
    go_ret
    exact ⟨rfl, HBW6.out.trans (hb7.mono HBW6.out.size)⟩
end Go.Proofs.Ytkciedcfphhenaa.vmTells
