
/-
  vm: goOn; many numbers that are pushed.
-/
import Derived.Test.YtkciedcfphhenaaVmB
import Derived.Test.YtkciedcfphhenaaDoesA
import Derived.Deep.LoopGhost
set_option linter.unusedVariables false
set_option linter.unusedSimpArgs false
namespace Go.Proofs.Ytkciedcfphhenaa
open Go.RowKit Plain

namespace Plain
/-- Numbers that are pushed one behind the other; without room the thread is over. -/
def pushAll : TV → List Int → TV × Bool
  | t, [] => (t, true)
  | t, v :: r => if t.stack.length < 16 then pushAll (pushT t v) r else (⟨9, 0, [], [], 2⟩, false)
end Plain
theorem lens_push {t : TV} (v : Int) (h : LensT t) (h16 : t.stack.length < 16) : LensT (pushT t v) := ⟨h.frames, by simp [pushT]; omega, h.locals⟩
set_option maxHeartbeats 4000000 in
set_option maxRecDepth 100000 in
theorem goOn_yes (h : PH) (p : PV) (ht : TH) (t : TV) (a : Int) (q : QV) (a2 : Option Addr) (c2 : Nat) (s2 : Option Addr) (d2 : Nat) (t2 : TV) (c : Int) (W : World) (ub B : Nat) (hu : US W ub B h p ht t a q) (hr : RT W (fun i => B ≤ i ∧ i ≠ ub) ⟨a2, c2, s2, d2⟩ t2) :
    Calls Try.prog 89 #[.pointer (some ⟨ub, 0, none⟩), .agg #[.int .i64 t2.state, .int .i64 t2.on, .slice a2 t2.frames.length c2, .slice s2 t2.stack.length d2, .int .i64 t2.code], .bool true, .int .i64 c] W fun e W' => e = .returned (.tuple #[]) ∧ (∃ ht' : TH, US W' ub B h p ht' t2 a q) ∧ Fr (fun i => i = ub) W W' := by
  obtain ⟨fA, fc, cA, cc, sA, sc, hA, hc, xA, xc⟩ := h
  obtain ⟨a1, c1, s1, d1⟩ := ht
  have HU := Lib.hid hu
  have hul := hu.bx.lt
  have x0 : W.cell? ⟨ub, 0, none⟩ = some (.slice fA p.funcs.length fc) := (hu.bx.cell 0).trans rfl
  have y0 : W.frozen? ⟨ub, 0, none⟩ = false := hu.bx.frozen 0
  have x1 : W.cell? ⟨ub, 1, none⟩ = some (.int .i64 p.mutexes) := (hu.bx.cell 1).trans rfl
  have y1 : W.frozen? ⟨ub, 1, none⟩ = false := hu.bx.frozen 1
  have x2 : W.cell? ⟨ub, 2, none⟩ = some (.slice cA p.conds.length cc) := (hu.bx.cell 2).trans rfl
  have y2 : W.frozen? ⟨ub, 2, none⟩ = false := hu.bx.frozen 2
  have x3 : W.cell? ⟨ub, 3, none⟩ = some (.slice sA p.semas.length sc) := (hu.bx.cell 3).trans rfl
  have y3 : W.frozen? ⟨ub, 3, none⟩ = false := hu.bx.frozen 3
  have x4 : W.cell? ⟨ub, 4, none⟩ = some (.slice hA p.chans.length hc) := (hu.bx.cell 4).trans rfl
  have y4 : W.frozen? ⟨ub, 4, none⟩ = false := hu.bx.frozen 4
  have x5 : W.cell? ⟨ub, 5, none⟩ = some (.slice xA p.choices.length xc) := (hu.bx.cell 5).trans rfl
  have y5 : W.frozen? ⟨ub, 5, none⟩ = false := hu.bx.frozen 5
  have x6 : W.cell? ⟨ub, 6, none⟩ = some (.int .i64 p.threads) := (hu.bx.cell 6).trans rfl
  have y6 : W.frozen? ⟨ub, 6, none⟩ = false := hu.bx.frozen 6
  have x7 : W.cell? ⟨ub, 7, none⟩ = some (.int .i64 t.state) := (hu.bx.cell 7).trans rfl
  have y7 : W.frozen? ⟨ub, 7, none⟩ = false := hu.bx.frozen 7
  have x8 : W.cell? ⟨ub, 8, none⟩ = some (.int .i64 t.on) := (hu.bx.cell 8).trans rfl
  have y8 : W.frozen? ⟨ub, 8, none⟩ = false := hu.bx.frozen 8
  have x9 : W.cell? ⟨ub, 9, none⟩ = some (.slice a1 t.frames.length c1) := (hu.bx.cell 9).trans rfl
  have y9 : W.frozen? ⟨ub, 9, none⟩ = false := hu.bx.frozen 9
  have x10 : W.cell? ⟨ub, 10, none⟩ = some (.slice s1 t.stack.length d1) := (hu.bx.cell 10).trans rfl
  have y10 : W.frozen? ⟨ub, 10, none⟩ = false := hu.bx.frozen 10
  have x11 : W.cell? ⟨ub, 11, none⟩ = some (.int .i64 t.code) := (hu.bx.cell 11).trans rfl
  have y11 : W.frozen? ⟨ub, 11, none⟩ = false := hu.bx.frozen 11
  have x12 : W.cell? ⟨ub, 12, none⟩ = some (.int .i64 a) := (hu.bx.cell 12).trans rfl
  have y12 : W.frozen? ⟨ub, 12, none⟩ = false := hu.bx.frozen 12
  have x13 : W.cell? ⟨ub, 13, none⟩ = some (.int .i64 q.kind) := (hu.bx.cell 13).trans rfl
  have y13 : W.frozen? ⟨ub, 13, none⟩ = false := hu.bx.frozen 13
  have x14 : W.cell? ⟨ub, 14, none⟩ = some (.int .i64 q.a) := (hu.bx.cell 14).trans rfl
  have y14 : W.frozen? ⟨ub, 14, none⟩ = false := hu.bx.frozen 14
  have x15 : W.cell? ⟨ub, 15, none⟩ = some (.int .i64 q.v) := (hu.bx.cell 15).trans rfl
  have y15 : W.frozen? ⟨ub, 15, none⟩ = false := hu.bx.frozen 15
  have HR := Lib.hid hr
  clear hu hr
  go_enter Try.func89, Try.ntmps89
  go_wp2_with fail
  go_end0
  have hs := HU.out.setT (Below.refl _ W) HR.out
  exact ⟨rfl, ⟨⟨a2, c2, s2, d2⟩, hs.1.below ((Below.refl _ _).alloc (Nat.le_refl _) _)⟩, hs.2.alloc _⟩
set_option maxHeartbeats 4000000 in
set_option maxRecDepth 100000 in
theorem goOn_no (h : PH) (p : PV) (ht : TH) (t : TV) (a : Int) (q : QV) (a2 : Option Addr) (c2 : Nat) (s2 : Option Addr) (d2 : Nat) (t2 : TV) (c : Int) (W : World) (ub B : Nat) (hu : US W ub B h p ht t a q) (hr : RT W (fun i => B ≤ i ∧ i ≠ ub) ⟨a2, c2, s2, d2⟩ t2) :
    Calls Try.prog 89 #[.pointer (some ⟨ub, 0, none⟩), .agg #[.int .i64 t2.state, .int .i64 t2.on, .slice a2 t2.frames.length c2, .slice s2 t2.stack.length d2, .int .i64 t2.code], .bool false, .int .i64 c] W fun e W' => e = .returned (.tuple #[]) ∧ (∃ ht' : TH, US W' ub B h p ht' (deadT c) a ⟨1, 0, c⟩) ∧ Fr (fun i => i = ub) W W' := by
  obtain ⟨fA, fc, cA, cc, sA, sc, hA, hc, xA, xc⟩ := h
  obtain ⟨a1, c1, s1, d1⟩ := ht
  have HU := Lib.hid hu
  have hul := hu.bx.lt
  have x0 : W.cell? ⟨ub, 0, none⟩ = some (.slice fA p.funcs.length fc) := (hu.bx.cell 0).trans rfl
  have y0 : W.frozen? ⟨ub, 0, none⟩ = false := hu.bx.frozen 0
  have x1 : W.cell? ⟨ub, 1, none⟩ = some (.int .i64 p.mutexes) := (hu.bx.cell 1).trans rfl
  have y1 : W.frozen? ⟨ub, 1, none⟩ = false := hu.bx.frozen 1
  have x2 : W.cell? ⟨ub, 2, none⟩ = some (.slice cA p.conds.length cc) := (hu.bx.cell 2).trans rfl
  have y2 : W.frozen? ⟨ub, 2, none⟩ = false := hu.bx.frozen 2
  have x3 : W.cell? ⟨ub, 3, none⟩ = some (.slice sA p.semas.length sc) := (hu.bx.cell 3).trans rfl
  have y3 : W.frozen? ⟨ub, 3, none⟩ = false := hu.bx.frozen 3
  have x4 : W.cell? ⟨ub, 4, none⟩ = some (.slice hA p.chans.length hc) := (hu.bx.cell 4).trans rfl
  have y4 : W.frozen? ⟨ub, 4, none⟩ = false := hu.bx.frozen 4
  have x5 : W.cell? ⟨ub, 5, none⟩ = some (.slice xA p.choices.length xc) := (hu.bx.cell 5).trans rfl
  have y5 : W.frozen? ⟨ub, 5, none⟩ = false := hu.bx.frozen 5
  have x6 : W.cell? ⟨ub, 6, none⟩ = some (.int .i64 p.threads) := (hu.bx.cell 6).trans rfl
  have y6 : W.frozen? ⟨ub, 6, none⟩ = false := hu.bx.frozen 6
  have x7 : W.cell? ⟨ub, 7, none⟩ = some (.int .i64 t.state) := (hu.bx.cell 7).trans rfl
  have y7 : W.frozen? ⟨ub, 7, none⟩ = false := hu.bx.frozen 7
  have x8 : W.cell? ⟨ub, 8, none⟩ = some (.int .i64 t.on) := (hu.bx.cell 8).trans rfl
  have y8 : W.frozen? ⟨ub, 8, none⟩ = false := hu.bx.frozen 8
  have x9 : W.cell? ⟨ub, 9, none⟩ = some (.slice a1 t.frames.length c1) := (hu.bx.cell 9).trans rfl
  have y9 : W.frozen? ⟨ub, 9, none⟩ = false := hu.bx.frozen 9
  have x10 : W.cell? ⟨ub, 10, none⟩ = some (.slice s1 t.stack.length d1) := (hu.bx.cell 10).trans rfl
  have y10 : W.frozen? ⟨ub, 10, none⟩ = false := hu.bx.frozen 10
  have x11 : W.cell? ⟨ub, 11, none⟩ = some (.int .i64 t.code) := (hu.bx.cell 11).trans rfl
  have y11 : W.frozen? ⟨ub, 11, none⟩ = false := hu.bx.frozen 11
  have x12 : W.cell? ⟨ub, 12, none⟩ = some (.int .i64 a) := (hu.bx.cell 12).trans rfl
  have y12 : W.frozen? ⟨ub, 12, none⟩ = false := hu.bx.frozen 12
  have x13 : W.cell? ⟨ub, 13, none⟩ = some (.int .i64 q.kind) := (hu.bx.cell 13).trans rfl
  have y13 : W.frozen? ⟨ub, 13, none⟩ = false := hu.bx.frozen 13
  have x14 : W.cell? ⟨ub, 14, none⟩ = some (.int .i64 q.a) := (hu.bx.cell 14).trans rfl
  have y14 : W.frozen? ⟨ub, 14, none⟩ = false := hu.bx.frozen 14
  have x15 : W.cell? ⟨ub, 15, none⟩ = some (.int .i64 q.v) := (hu.bx.cell 15).trans rfl
  have y15 : W.frozen? ⟨ub, 15, none⟩ = false := hu.bx.frozen 15
  have HR := Lib.hid hr
  clear hu hr
  go_enter Try.func89, Try.ntmps89
  go_wp2_with fail
  refine (uend_any ⟨fA, fc, cA, cc, sA, sc, hA, hc, xA, xc⟩ p ⟨a1, c1, s1, d1⟩ t a q c _ ub B (HU.out.below ((Below.refl _ _).alloc (Nat.le_refl _) _))).mono ?_
  rintro e W1 ⟨rfl, hq, hf⟩
  go_wp2_with fail
  refine bodyPost_ret (results_none rfl _ _ _) rfl ?_
  exact ⟨rfl, hq, ((Fr.refl _ W).alloc _).trans hf (fun i _ h => h)⟩
/-- The boxes of push: the thread so far, and the result's. -/
structure VP (w wr : World) (D : Nat → Prop) (hk : TH) (tk : TV) : Prop where
  b1 : Blk wr w.heap.size 29 #[.int .i64 tk.state, .int .i64 tk.on, .slice hk.fA tk.frames.length hk.fc, .slice hk.sA tk.stack.length hk.sc, .int .i64 tk.code]
  b2 : Blk wr (w.heap.size + 1) 29 #[.int .i64 0, .int .i64 0, .slice none 0 0, .slice none 0 0, .int .i64 0]
  rt : RT wr (fun i => (D i ∧ i < w.heap.size) ∨ w.heap.size + 1 + 1 ≤ i) hk tk
  len : LensT tk
  bel : Below w.heap.size w wr
theorem VP.step {w wr w1 : World} {D : Nat → Prop} {hk : TH} {tk : TV} (g : VP w wr D hk tk) (hb : Below wr.heap.size wr w1) {hj : TH} {t' : TV} (hr : RT w1 (fun i => ((D i ∧ i < w.heap.size) ∨ w.heap.size + 1 + 1 ≤ i) ∨ wr.heap.size ≤ i) hj t') (hl : LensT t') : VP w (((((w1.setCell ⟨w.heap.size, 0, none⟩ (.int .i64 t'.state)).setCell ⟨w.heap.size, 1, none⟩ (.int .i64 t'.on)).setCell ⟨w.heap.size, 2, none⟩ (.slice hj.fA t'.frames.length hj.fc)).setCell ⟨w.heap.size, 3, none⟩ (.slice hj.sA t'.stack.length hj.sc)).setCell ⟨w.heap.size, 4, none⟩ (.int .i64 t'.code)) D hj t' := by
  have hz := g.bel.size
  have hl1 := g.b2.lt
  have hf := (Fr.refl (fun i => i = w.heap.size) w1).set5 (g := w.heap.size) (.inl rfl) (.int .i64 t'.state) (.int .i64 t'.on) (.slice hj.fA t'.frames.length hj.fc) (.slice hj.sA t'.stack.length hj.sc) (.int .i64 t'.code)
  refine ⟨(g.b1.below hb g.b1.lt).set5 (.int .i64 t'.state) (.int .i64 t'.on) (.slice hj.fA t'.frames.length hj.fc) (.slice hj.sA t'.stack.length hj.sc) (.int .i64 t'.code), (g.b2.below hb g.b2.lt).far5 (g' := w.heap.size) (by omega) (.int .i64 t'.state) (.int .i64 t'.on) (.slice hj.fA t'.frames.length hj.fc) (.slice hj.sA t'.stack.length hj.sc) (.int .i64 t'.code), ?_, hl, (g.bel.trans (hb.mono hz)).trans (hf.below (Nat.le_trans hz hb.size) (fun i hi => by omega))⟩
  exact (hr.keep fun x hx hx2 => hf.cell hx2 (fun e => by omega)).mono fun i hi _ => by rcases hi with hi | hi; exact hi; exact .inr (by omega)
def VPR (w : World) (D : Nat → Prop) (t : TV) (l : List Int) (s : Value) (wr : World) : Prop :=
  ∃ (k : Nat) (hk : TH) (tk : TV), k ≤ l.length ∧ s = .int .i64 (k : Int) ∧ VP w wr D hk tk ∧ pushAll t l = pushAll tk (l.drop k)
set_option maxHeartbeats 4000000 in
set_option maxRecDepth 100000 in
theorem vpush_any (ht : TH) (t : TV) (l : List Int) (A : Option Addr) (n c : Nat) (w : World) (D : Nat → Prop) (hr : RT w D ht t) (hl : LensT t) (hri : RI w w.heap.size A n c l) (hn : n ≤ 1000000) :
    Calls Try.prog 48 #[.agg #[.int .i64 t.state, .int .i64 t.on, .slice ht.fA t.frames.length ht.fc, .slice ht.sA t.stack.length ht.sc, .int .i64 t.code], .slice A n c] w fun e w' => ∃ h' : TH, e = .returned (.tuple #[.agg #[.int .i64 (pushAll t l).1.state, .int .i64 (pushAll t l).1.on, .slice h'.fA (pushAll t l).1.frames.length h'.fc, .slice h'.sA (pushAll t l).1.stack.length h'.sc, .int .i64 (pushAll t l).1.code], .bool (pushAll t l).2]) ∧ RT w' (fun i => D i ∨ w.heap.size ≤ i) h' (pushAll t l).1 ∧ Below w.heap.size w w' := by
  obtain ⟨a1, c1, s1, d1⟩ := ht
  obtain rfl : l.length = n := hri.1
  have hvp : VP w ((w.alloc (.cells #[.int .i64 t.state, .int .i64 t.on, .slice a1 t.frames.length c1, .slice s1 t.stack.length d1, .int .i64 t.code] 29)).alloc (.cells #[.int .i64 0, .int .i64 0, .slice none 0 0, .slice none 0 0, .int .i64 0] 29)) D ⟨a1, c1, s1, d1⟩ t := by
    refine ⟨(Blk.new w _ _).alloc _, ?_, ((hr.cut.mono (E := fun i => (D i ∧ i < w.heap.size) ∨ w.heap.size + 1 + 1 ≤ i) fun i h _ => .inl h).alloc _).alloc _, hl, ((Below.refl _ _).alloc (Nat.le_refl _) _).alloc (by simp) _⟩
    simpa using Blk.new (w.alloc (.cells #[.int .i64 t.state, .int .i64 t.on, .slice a1 t.frames.length c1, .slice s1 t.stack.length d1, .int .i64 t.code] 29)) 29 #[.int .i64 0, .int .i64 0, .slice none 0 0, .slice none 0 0, .int .i64 0]
  have HVP := Lib.hid hvp; have HRI := Lib.hid hri
  clear hr hl hri hvp
  go_enter Try.func48, Try.ntmps48
  go_wp2_with fail
  go_loopw [11] (fun s11 wr => VPR w D t l s11 wr) (fun s11 _ => l.length - (intOf s11).toNat)
  case atStart => exact ⟨0, _, _, Nat.zero_le _, rfl, HVP.out, by simp⟩
  case round =>
    obtain ⟨k, ⟨ak, ck, sk, dk⟩, tk, hk, rfl, g, hp⟩ := hrel
    have G := Lib.hid g; have HP := Lib.hid hp
    by_cases hlt : k < l.length
    · obtain ⟨ad, z, hA, hab, hz, hc⟩ := HRI.out.at_ (k := k) hlt
      have hdr : l.drop k = z :: l.drop (k + 1) := by rw [List.drop_eq_getElem_cons hlt]; congr 1; exact Option.some.inj ((List.getElem?_eq_getElem hlt).symm.trans hz)
      have HDR := Lib.hid hdr
      subst hA
      have hck := (g.bel.cell (p := ad.add k) (by simpa [block_of_add] using hab)).trans hc
      have hlti : (k : Int) < (l.length : Int) := by omega
      have m0 : wr.cell? ⟨w.heap.size, 0, none⟩ = some (.int .i64 tk.state) := (g.b1.cell 0).trans rfl
      have k0 : wr.frozen? ⟨w.heap.size, 0, none⟩ = false := g.b1.frozen 0
      have m1 : wr.cell? ⟨w.heap.size, 1, none⟩ = some (.int .i64 tk.on) := (g.b1.cell 1).trans rfl
      have k1 : wr.frozen? ⟨w.heap.size, 1, none⟩ = false := g.b1.frozen 1
      have m2 : wr.cell? ⟨w.heap.size, 2, none⟩ = some (.slice ak tk.frames.length ck) := (g.b1.cell 2).trans rfl
      have k2 : wr.frozen? ⟨w.heap.size, 2, none⟩ = false := g.b1.frozen 2
      have m3 : wr.cell? ⟨w.heap.size, 3, none⟩ = some (.slice sk tk.stack.length dk) := (g.b1.cell 3).trans rfl
      have k3 : wr.frozen? ⟨w.heap.size, 3, none⟩ = false := g.b1.frozen 3
      have m4 : wr.cell? ⟨w.heap.size, 4, none⟩ = some (.int .i64 tk.code) := (g.b1.cell 4).trans rfl
      have k4 : wr.frozen? ⟨w.heap.size, 4, none⟩ = false := g.b1.frozen 4
      have hlt1 : w.heap.size < wr.heap.size := g.b1.lt
      have hlt2 : w.heap.size + 1 < wr.heap.size := g.b2.lt
      clear g hp hz hc hdr hab
      by_cases h16 : tk.stack.length < 16
      · go_wp2_with fail
        refine (push_yes ⟨ak, ck, sk, dk⟩ tk z wr _ G.out.rt G.out.len h16).mono ?_
        rintro e w1 ⟨⟨aj, cj, sj, dj⟩, rfl, hrt, hb⟩
        have hst := G.out.step hb hrt (lens_push z G.out.len h16)
        have hpe : pushAll t l = pushAll (pushT tk z) (l.drop (k + 1)) := by rw [HP.out, HDR.out]; simp [pushAll, h16]
        have hb1 := G.out.b1.below hb G.out.b1.lt
        have HST := Lib.hid hst; have HPE := Lib.hid hpe
        clear m0 k0 m1 k1 m2 k2 m3 k3 m4 k4 hlt1 hlt2 hrt hst hpe hb h16 HP G HDR
        have m0 : w1.cell? ⟨w.heap.size, 0, none⟩ = some (.int .i64 tk.state) := (hb1.cell 0).trans rfl
        have k0 : w1.frozen? ⟨w.heap.size, 0, none⟩ = false := hb1.frozen 0
        have m1 : w1.cell? ⟨w.heap.size, 1, none⟩ = some (.int .i64 tk.on) := (hb1.cell 1).trans rfl
        have k1 : w1.frozen? ⟨w.heap.size, 1, none⟩ = false := hb1.frozen 1
        have m2 : w1.cell? ⟨w.heap.size, 2, none⟩ = some (.slice ak tk.frames.length ck) := (hb1.cell 2).trans rfl
        have k2 : w1.frozen? ⟨w.heap.size, 2, none⟩ = false := hb1.frozen 2
        have m3 : w1.cell? ⟨w.heap.size, 3, none⟩ = some (.slice sk tk.stack.length dk) := (hb1.cell 3).trans rfl
        have k3 : w1.frozen? ⟨w.heap.size, 3, none⟩ = false := hb1.frozen 3
        have m4 : w1.cell? ⟨w.heap.size, 4, none⟩ = some (.int .i64 tk.code) := (hb1.cell 4).trans rfl
        have k4 : w1.frozen? ⟨w.heap.size, 4, none⟩ = false := hb1.frozen 4
        have hlt1 := hb1.lt
        clear hb1 hck
        go_wp2_with fail
        exact ⟨⟨k + 1, _, _, by omega, by go_num, HST.out, HPE.out⟩, by simp [intOf]; omega⟩
      · have hpe : pushAll t l = (⟨9, 0, [], [], 2⟩, false) := by rw [HP.out, HDR.out]; simp [pushAll, h16]
        have HPE := Lib.hid hpe
        clear hpe
        go_wp2_with fail
        refine (push_no ⟨ak, ck, sk, dk⟩ tk z wr _ G.out.rt G.out.len (by omega)).mono ?_
        rintro e w1 ⟨⟨aj, cj, sj, dj⟩, rfl, hrt, hb⟩
        have hst := G.out.step hb hrt G.out.len
        have hb1 := G.out.b1.below hb G.out.b1.lt
        have HST := Lib.hid hst
        clear m0 k0 m1 k1 m2 k2 m3 k3 m4 k4 hlt1 hlt2 hrt hst hb h16 HP G HDR hck
        have m0 : w1.cell? ⟨w.heap.size, 0, none⟩ = some (.int .i64 tk.state) := (hb1.cell 0).trans rfl
        have k0 : w1.frozen? ⟨w.heap.size, 0, none⟩ = false := hb1.frozen 0
        have m1 : w1.cell? ⟨w.heap.size, 1, none⟩ = some (.int .i64 tk.on) := (hb1.cell 1).trans rfl
        have k1 : w1.frozen? ⟨w.heap.size, 1, none⟩ = false := hb1.frozen 1
        have m2 : w1.cell? ⟨w.heap.size, 2, none⟩ = some (.slice ak tk.frames.length ck) := (hb1.cell 2).trans rfl
        have k2 : w1.frozen? ⟨w.heap.size, 2, none⟩ = false := hb1.frozen 2
        have m3 : w1.cell? ⟨w.heap.size, 3, none⟩ = some (.slice sk tk.stack.length dk) := (hb1.cell 3).trans rfl
        have k3 : w1.frozen? ⟨w.heap.size, 3, none⟩ = false := hb1.frozen 3
        have m4 : w1.cell? ⟨w.heap.size, 4, none⟩ = some (.int .i64 tk.code) := (hb1.cell 4).trans rfl
        have k4 : w1.frozen? ⟨w.heap.size, 4, none⟩ = false := hb1.frozen 4
        have hlt1 := hb1.lt
        clear hb1
        go_upto_region 7 with fail
        obtain ⟨W2, hW2⟩ : ∃ W, W = (((((w1.setCell ⟨w.heap.size, 0, none⟩ (.int .i64 tk.state)).setCell ⟨w.heap.size, 1, none⟩ (.int .i64 tk.on)).setCell ⟨w.heap.size, 2, none⟩ (.slice aj tk.frames.length cj)).setCell ⟨w.heap.size, 3, none⟩ (.slice sj tk.stack.length dj)).setCell ⟨w.heap.size, 4, none⟩ (.int .i64 tk.code)) := ⟨_, rfl⟩
        have H2 : Hid (VP w W2 D ⟨aj, cj, sj, dj⟩ tk) := by rw [hW2]; exact HST.out
        rw [← hW2]
        clear m0 k0 m1 k1 m2 k2 m3 k3 m4 k4 hlt1 hW2 HST
        have m0 : W2.cell? ⟨w.heap.size, 0, none⟩ = some (.int .i64 tk.state) := (H2.out.b1.cell 0).trans rfl
        have k0 : W2.frozen? ⟨w.heap.size, 0, none⟩ = false := H2.out.b1.frozen 0
        have m1 : W2.cell? ⟨w.heap.size, 1, none⟩ = some (.int .i64 tk.on) := (H2.out.b1.cell 1).trans rfl
        have k1 : W2.frozen? ⟨w.heap.size, 1, none⟩ = false := H2.out.b1.frozen 1
        have m2 : W2.cell? ⟨w.heap.size, 2, none⟩ = some (.slice aj tk.frames.length cj) := (H2.out.b1.cell 2).trans rfl
        have k2 : W2.frozen? ⟨w.heap.size, 2, none⟩ = false := H2.out.b1.frozen 2
        have m3 : W2.cell? ⟨w.heap.size, 3, none⟩ = some (.slice sj tk.stack.length dj) := (H2.out.b1.cell 3).trans rfl
        have k3 : W2.frozen? ⟨w.heap.size, 3, none⟩ = false := H2.out.b1.frozen 3
        have m4 : W2.cell? ⟨w.heap.size, 4, none⟩ = some (.int .i64 tk.code) := (H2.out.b1.cell 4).trans rfl
        have k4 : W2.frozen? ⟨w.heap.size, 4, none⟩ = false := H2.out.b1.frozen 4
        have hlt1 := H2.out.b1.lt
        have hlt2 := H2.out.b2.lt
        go_wp2_with fail
        refine (end_any tk.state tk.on aj sj tk.frames.length cj tk.stack.length dj tk.code 2 W2).mono ?_
        rintro e W3 ⟨rfl, hb⟩
        have hbr := H2.out.b2.below hb H2.out.b2.lt
        have hbel := H2.out.bel.trans (hb.mono H2.out.bel.size)
        have HBR := Lib.hid hbr; have HBL := Lib.hid hbel
        clear m0 k0 m1 k1 m2 k2 m3 k3 m4 k4 hlt1 hlt2 hb H2
        have m0 : W3.cell? ⟨w.heap.size + 1, 0, none⟩ = some (.int .i64 0) := (hbr.cell 0).trans rfl
        have k0 : W3.frozen? ⟨w.heap.size + 1, 0, none⟩ = false := hbr.frozen 0
        have m1 : W3.cell? ⟨w.heap.size + 1, 1, none⟩ = some (.int .i64 0) := (hbr.cell 1).trans rfl
        have k1 : W3.frozen? ⟨w.heap.size + 1, 1, none⟩ = false := hbr.frozen 1
        have m2 : W3.cell? ⟨w.heap.size + 1, 2, none⟩ = some (.slice none 0 0) := (hbr.cell 2).trans rfl
        have k2 : W3.frozen? ⟨w.heap.size + 1, 2, none⟩ = false := hbr.frozen 2
        have m3 : W3.cell? ⟨w.heap.size + 1, 3, none⟩ = some (.slice none 0 0) := (hbr.cell 3).trans rfl
        have k3 : W3.frozen? ⟨w.heap.size + 1, 3, none⟩ = false := hbr.frozen 3
        have m4 : W3.cell? ⟨w.heap.size + 1, 4, none⟩ = some (.int .i64 0) := (hbr.cell 4).trans rfl
        have k4 : W3.frozen? ⟨w.heap.size + 1, 4, none⟩ = false := hbr.frozen 4
        have hlt2 := hbr.lt
        clear hbr hbel
        go_wp2_with fail
        have hf := (Fr.refl (fun i => i = w.heap.size + 1) W3).set5 (g := w.heap.size + 1) (.inl rfl) (.int .i64 9) (.int .i64 0) (.slice none 0 0) (.slice none 0 0) (.int .i64 2)
        refine bodyPost_ret (v := .tuple #[.agg #[.int .i64 9, .int .i64 0, .slice none 0 0, .slice none 0 0, .int .i64 2], .bool false]) (results_cell_slot rfl _ _ (w.heap.size + 1) 29 _ (0, 0) _ _ rfl rfl (HBR.out.set5 (.int .i64 9) (.int .i64 0) (.slice none 0 0) (.slice none 0 0) (.int .i64 2)) Try.underlying29 rfl (by kernel_rfl)) rfl ?_
        refine ⟨⟨none, 0, none, 0⟩, by rw [HPE.out]; rfl, ?_, HBL.out.trans (hf.below HBL.out.size (fun i hi => by omega))⟩
        rw [HPE.out]
        exact (dead_rt 2 _).mono fun i hi _ => hi.elim
    · have hkn : k = l.length := by omega
      have hpe : pushAll t l = (tk, true) := by rw [HP.out, hkn, List.drop_length]; rfl
      have HPE := Lib.hid hpe
      have hlti : ¬ (k : Int) < (l.length : Int) := by omega
      have m0 : wr.cell? ⟨w.heap.size, 0, none⟩ = some (.int .i64 tk.state) := (g.b1.cell 0).trans rfl
      have k0 : wr.frozen? ⟨w.heap.size, 0, none⟩ = false := g.b1.frozen 0
      have m1 : wr.cell? ⟨w.heap.size, 1, none⟩ = some (.int .i64 tk.on) := (g.b1.cell 1).trans rfl
      have k1 : wr.frozen? ⟨w.heap.size, 1, none⟩ = false := g.b1.frozen 1
      have m2 : wr.cell? ⟨w.heap.size, 2, none⟩ = some (.slice ak tk.frames.length ck) := (g.b1.cell 2).trans rfl
      have k2 : wr.frozen? ⟨w.heap.size, 2, none⟩ = false := g.b1.frozen 2
      have m3 : wr.cell? ⟨w.heap.size, 3, none⟩ = some (.slice sk tk.stack.length dk) := (g.b1.cell 3).trans rfl
      have k3 : wr.frozen? ⟨w.heap.size, 3, none⟩ = false := g.b1.frozen 3
      have m4 : wr.cell? ⟨w.heap.size, 4, none⟩ = some (.int .i64 tk.code) := (g.b1.cell 4).trans rfl
      have k4 : wr.frozen? ⟨w.heap.size, 4, none⟩ = false := g.b1.frozen 4
      have o0 : wr.cell? ⟨w.heap.size + 1, 0, none⟩ = some (.int .i64 0) := (g.b2.cell 0).trans rfl
      have q0 : wr.frozen? ⟨w.heap.size + 1, 0, none⟩ = false := g.b2.frozen 0
      have o1 : wr.cell? ⟨w.heap.size + 1, 1, none⟩ = some (.int .i64 0) := (g.b2.cell 1).trans rfl
      have q1 : wr.frozen? ⟨w.heap.size + 1, 1, none⟩ = false := g.b2.frozen 1
      have o2 : wr.cell? ⟨w.heap.size + 1, 2, none⟩ = some (.slice none 0 0) := (g.b2.cell 2).trans rfl
      have q2 : wr.frozen? ⟨w.heap.size + 1, 2, none⟩ = false := g.b2.frozen 2
      have o3 : wr.cell? ⟨w.heap.size + 1, 3, none⟩ = some (.slice none 0 0) := (g.b2.cell 3).trans rfl
      have q3 : wr.frozen? ⟨w.heap.size + 1, 3, none⟩ = false := g.b2.frozen 3
      have o4 : wr.cell? ⟨w.heap.size + 1, 4, none⟩ = some (.int .i64 0) := (g.b2.cell 4).trans rfl
      have q4 : wr.frozen? ⟨w.heap.size + 1, 4, none⟩ = false := g.b2.frozen 4
      have hlt1 := g.b1.lt
      have hlt2 := g.b2.lt
      clear g hp hpe hkn HP
      go_wp2_with fail
      have hf := (Fr.refl (fun i => i = w.heap.size + 1) wr).set5 (g := w.heap.size + 1) (.inl rfl) (.int .i64 tk.state) (.int .i64 tk.on) (.slice ak tk.frames.length ck) (.slice sk tk.stack.length dk) (.int .i64 tk.code)
      refine bodyPost_ret (v := .tuple #[.agg #[.int .i64 tk.state, .int .i64 tk.on, .slice ak tk.frames.length ck, .slice sk tk.stack.length dk, .int .i64 tk.code], .bool true]) (results_cell_slot rfl _ _ (w.heap.size + 1) 29 _ (0, 0) _ _ rfl rfl (G.out.b2.set5 (.int .i64 tk.state) (.int .i64 tk.on) (.slice ak tk.frames.length ck) (.slice sk tk.stack.length dk) (.int .i64 tk.code)) Try.underlying29 rfl (by kernel_rfl)) rfl ?_
      refine ⟨⟨ak, ck, sk, dk⟩, by rw [HPE.out], ?_, G.out.bel.trans (hf.below G.out.bel.size (fun i hi => by omega))⟩
      rw [HPE.out]
      exact (G.out.rt.keep fun x hx hx2 => hf.cell hx2 (fun e => by omega)).mono fun i hi _ => by rcases hi with hi | hi; exact .inl hi.1; exact .inr (by omega)
end Go.Proofs.Ytkciedcfphhenaa
