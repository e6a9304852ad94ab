
/-
  The document's Good of layer 4: a thread that may be, made of any.
-/
import Derived.Test.YtkciedcfphhenaaThrJ
import Derived.Test.YtkciedcfphhenaaSDeep
import Derived.IntWalk
set_option linter.unusedVariables false
set_option linter.unusedSimpArgs false
namespace Go.Proofs.Ytkciedcfphhenaa
open Go.RowKit Plain

namespace Plain
/-- What is made of a frame. -/
def goodLoc (m : Nat) (old : List Int) : List Int := (old.map keep).take m ++ List.replicate (m - old.length) 0
def locK (m : Nat) (old : List Int) (k : Nat) : List Int := (old.map keep).take k ++ List.replicate (m - k) 0
theorem locK_zero (m : Nat) (old : List Int) : locK m old 0 = List.replicate m 0 := by simp [locK]
theorem locK_length (m : Nat) (old : List Int) (k : Nat) (h1 : k ≤ m) (h2 : k ≤ old.length) : (locK m old k).length = m := by simp [locK]; omega
theorem locK_succ (m : Nat) (old : List Int) (k : Nat) (z : Int) (h1 : k < m) (hz : old[k]? = some z) : (locK m old k).set k (keep z) = locK m old (k + 1) := by
  have hk : k < old.length := (List.getElem?_eq_some_iff.1 hz).1
  unfold locK
  rw [List.set_append_right _ _ (by simp; omega), List.take_add_one, List.getElem?_map, hz]
  simp only [List.length_take, List.length_map, show min k old.length = k by omega, Nat.sub_self, Option.map_some, Option.toList_some, List.append_assoc]
  congr 1
  rw [show m - k = (m - (k + 1)) + 1 by omega, List.replicate_succ]
  rfl
theorem locK_end (m : Nat) (old : List Int) (k : Nat) (h1 : k ≤ m) (h2 : k ≤ old.length) (h : ¬ (k < m ∧ k < old.length)) : locK m old k = goodLoc m old := by
  unfold locK goodLoc
  rcases Nat.lt_or_ge k m with hlt | hge
  · have : k = old.length := by omega
    subst this
    rw [List.take_of_length_le (by simp), List.take_of_length_le (by simp; omega)]
  · have : k = m := by omega
    subst this
    rw [show k - k = 0 by omega, show k - old.length = 0 by omega]
def goodFr (p : PV) (x : FrV) : FrV :=
  ⟨around x.func p.funcs.length, around x.pc ((funcAt p (around x.func p.funcs.length)).code.length + 1), goodLoc (funcAt p (around x.func p.funcs.length)).locals.toNat x.locals⟩
def goodFs (p : PV) (l : List FrV) : List FrV := if l = [] then [newFr p 0] else (l.take 8).map (goodFr p)
def goodT (p : PV) (t : TV) : TV := ⟨0, 0, goodFs p t.frames, (t.stack.map keep).take 16, 0⟩
end Plain

/-- Where the making stands. -/
structure G4 (w wr : World) (h : PH) (p : PV) (ht : TH) (t : TV) (ob : Nat) (vA : Option Addr) (n vc : Nat) (qA : Option Addr) (qn qc : Nat) (ts : List TFr) (st : List Int) : Prop where
  pb : Blk wr w.heap.size 26 #[.slice h.fA p.funcs.length h.fc, .int .i64 p.mutexes, .slice h.cA p.conds.length h.cc, .slice h.sA p.semas.length h.sc, .slice h.hA p.chans.length h.hc, .slice h.xA p.choices.length h.xc, .int .i64 p.threads]
  tb : Blk wr (w.heap.size + 1) 29 #[.int .i64 t.state, .int .i64 t.on, .slice ht.fA t.frames.length ht.fc, .slice ht.sA t.stack.length ht.sc, .int .i64 t.code]
  rb : Blk wr (w.heap.size + 1 + 1) 29 #[.int .i64 0, .int .i64 0, .slice none 0 0, .slice none 0 0, .int .i64 0]
  oB : Blk wr ob 29 #[.int .i64 0, .int .i64 0, .slice vA n vc, .slice qA qn qc, .int .i64 0]
  row : wr.ownsRow (w.heap.size + 1 + 1 + 1) 67 3 (.slice vA n vc) n (FrS ts)
  each : ∀ x ∈ ts, wr.ownsRow (w.heap.size + 1 + 1 + 1) 3 1 (.slice x.A x.f.locals.length x.c) x.f.locals.length (IS x.f.locals)
  stk : wr.ownsRow (w.heap.size + 1 + 1 + 1) 3 1 (.slice qA qn qc) qn (IS st)
  bel : Below w.heap.size w wr
  hob : w.heap.size + 1 + 1 + 1 ≤ ob
  apart : ∀ x ∈ ts, ∀ i, (Value.slice x.A x.f.locals.length x.c).ownBlock = some i → (Value.slice qA qn qc).ownBlock ≠ some i
theorem G4.below {w wr W : World} {h : PH} {p : PV} {ht : TH} {t : TV} {ob : Nat} {vA : Option Addr} {n vc : Nat} {qA : Option Addr} {qn qc : Nat} {ts : List TFr} {st : List Int} (g : G4 w wr h p ht t ob vA n vc qA qn qc ts st) (hb : Below wr.heap.size wr W) : G4 w W h p ht t ob vA n vc qA qn qc ts st := by
  have hz := g.bel.size
  exact ⟨g.pb.below hb g.pb.lt, g.tb.below hb g.tb.lt, g.rb.below hb g.rb.lt, g.oB.below hb g.oB.lt, (Fr.of_below hb).own g.row (fun i hi e => by have := (g.row.lt i hi).2; omega), fun x hx => (Fr.of_below hb).own (g.each x hx) (fun i hi e => by have := ((g.each x hx).lt i hi).2; omega),
    (Fr.of_below hb).own g.stk (fun i hi e => by have := (g.stk.lt i hi).2; omega), g.bel.trans (hb.mono hz), g.hob, g.apart⟩
/-- What was made, told. -/
theorem G4.fin {w W : World} {h : PH} {p : PV} {ht : TH} {t : TV} {ob : Nat} {vA : Option Addr} {n vc : Nat} {qA : Option Addr} {qn qc : Nat} {ts : List TFr} {st : List Int} (g : G4 w W h p ht t ob vA n vc qA qn qc ts st) (u0 u1 u2 u3 u4 : Value) {W' : World} (hW : W' = (((((W.setCell ⟨w.heap.size + 1 + 1, 0, none⟩ u0).setCell ⟨w.heap.size + 1 + 1, 1, none⟩ u1).setCell ⟨w.heap.size + 1 + 1, 2, none⟩ u2).setCell ⟨w.heap.size + 1 + 1, 3, none⟩ u3).setCell ⟨w.heap.size + 1 + 1, 4, none⟩ u4)) :
    W'.ownsRow w.heap.size 67 3 (.slice vA n vc) n (FrS ts) ∧ (∀ x ∈ ts, W'.ownsRow w.heap.size 3 1 (.slice x.A x.f.locals.length x.c) x.f.locals.length (IS x.f.locals)) ∧ W'.ownsRow w.heap.size 3 1 (.slice qA qn qc) qn (IS st) ∧ Below w.heap.size w W' ∧ (∀ x ∈ ts, ∀ i, (Value.slice x.A x.f.locals.length x.c).ownBlock = some i → (Value.slice qA qn qc).ownBlock ≠ some i) := by
  have hfr : Fr (fun i => i = w.heap.size + 1 + 1) W W' := by rw [hW]; exact (Fr.refl (fun i => i = w.heap.size + 1 + 1) W).set5 (g := w.heap.size + 1 + 1) (.inl rfl) _ _ _ _ _
  refine ⟨own_mono (hfr.own g.row (fun i hi e => by have := (g.row.lt i hi).1; omega)) (by omega), fun x hx => ?_, ?_, g.bel.trans (hfr.below g.bel.size (fun i hi => by omega)), g.apart⟩
  · exact own_mono (hfr.own (g.each x hx) (fun i hi e => by have := ((g.each x hx).lt i hi).1; omega)) (by omega)
  · exact own_mono (hfr.own g.stk (fun i hi e => by have := (g.stk.lt i hi).1; omega)) (by omega)
/-- A thread in memory of one's own. -/
structure OwnT (w : World) (base : Nat) (h : TH) (t : TV) (ts : List TFr) : Prop where
  row : w.ownsRow base 67 3 (.slice h.fA t.frames.length h.fc) t.frames.length (FrS ts)
  fs : ts.map TFr.f = t.frames
  each : ∀ x ∈ ts, w.ownsRow base 3 1 (.slice x.A x.f.locals.length x.c) x.f.locals.length (IS x.f.locals)
  stk : w.ownsRow base 3 1 (.slice h.sA t.stack.length h.sc) t.stack.length (IS t.stack)
  apart : ∀ x ∈ ts, ∀ i, (Value.slice x.A x.f.locals.length x.c).ownBlock = some i → (Value.slice h.sA t.stack.length h.sc).ownBlock ≠ some i
theorem OwnT.rt {w : World} {base : Nat} {h : TH} {t : TV} {ts : List TFr} (g : OwnT w base h t ts) : RT w (fun i => base ≤ i) h t :=
  ⟨rgd_of_own g.row g.fs (fun i hi => hi) (fun x hx => rid_of_own (g.each x hx) rfl), rid_of_own g.stk rfl⟩
theorem below_cells {W w1 : World} (hb : Below W.heap.size W w1) : (∀ b o, b < W.heap.size → w1.cell? ⟨b, o, none⟩ = W.cell? ⟨b, o, none⟩) ∧ (∀ b o, b < W.heap.size → w1.frozen? ⟨b, o, none⟩ = W.frozen? ⟨b, o, none⟩) :=
  ⟨fun b o h => hb.cell (p := ⟨b, o, none⟩) h, fun b o h => hb.frozen (p := ⟨b, o, none⟩) h⟩
/-- A frame that was just made, in a box of its own. -/
def FrCut (wr : World) (f m : Nat) (s7 : Value) (wx : World) : Prop :=
  ∃ bx A c, s7 = .pointer (some ⟨bx, 0, none⟩) ∧ wr.heap.size ≤ bx ∧ Blk wx bx 67 #[.int .i64 (f : Int), .int .i64 0, .slice A m c] ∧ wx.ownsRow wr.heap.size 3 1 (.slice A m c) m (IS (List.replicate m 0)) ∧ Below wr.heap.size wr wx

set_option maxHeartbeats 8000000 in
set_option maxRecDepth 100000 in
theorem good4_own (h : PH) (p : PV) (w : World) (B : Nat) (hr : RP w B h p) (hB : B ≤ w.heap.size) (hfl : FewLoc p) (hlen : Lens p) (hcl : ∀ f ∈ p.funcs, f.code.length ≤ 1000000) (hn1 : 1 ≤ p.funcs.length) (ht : TH) (t : TV) (E : Nat → Prop) (hrt : RT w E ht t) (hfit : FitT t) (hlt : LenT t) :
    Calls Try.prog 10 #[.agg #[.slice h.fA p.funcs.length h.fc, .int .i64 p.mutexes, .slice h.cA p.conds.length h.cc, .slice h.sA p.semas.length h.sc, .slice h.hA p.chans.length h.hc, .slice h.xA p.choices.length h.xc, .int .i64 p.threads], .agg #[.int .i64 t.state, .int .i64 t.on, .slice ht.fA t.frames.length ht.fc, .slice ht.sA t.stack.length ht.sc, .int .i64 t.code]] w
      fun e w' => ∃ h' : TH, e = .returned (.agg #[.int .i64 (goodT p t).state, .int .i64 (goodT p t).on, .slice h'.fA (goodT p t).frames.length h'.fc, .slice h'.sA (goodT p t).stack.length h'.sc, .int .i64 (goodT p t).code]) ∧ (∃ ts, OwnT w' w.heap.size h' (goodT p t) ts) ∧ Below w.heap.size w w' := by
  obtain ⟨i0, hi0, hz0, hz1, hz2⟩ := info_parts info_frame
  have hnum := fun (W : World) (hb : Below w.heap.size w W) => numbers_any t.stack 16 (by omega) W W.heap.size ht.sA t.stack.length ht.sc ((hrt.below hb).stack.ri) (Nat.le_refl _)
  have hfrm := fun (W : World) (hb : Below w.heap.size w W) (f : Nat) (hf : f < p.funcs.length) => refFrame_any h p W B (hr.below (hb.mono hB)) (Nat.le_trans hB hb.size) hfl f hf hlen.funcs
  have hF := hrt.frames.rg
  have hrf := hr.funcs
  have hfn := hlen.funcs
  have hff := hfit.frames
  have hll := hlt.locals
  have HNUM := Lib.hid hnum; have HFRM := Lib.hid hfrm; have HF := Lib.hid hF; have HRF := Lib.hid hrf; have HFF := Lib.hid hff; have HLL := Lib.hid hll; have HFEW := Lib.hid hfl; have HCL := Lib.hid hcl
  have hlf := hlt.frames
  clear hr hfl hlen hrt hfit hlt hnum hfrm hF hrf hff hll hcl
  obtain ⟨tA, tc, kA, kc⟩ := ht
  obtain ⟨fA, fc, cA, cc, sA, sc, hA, hc, xA, xc⟩ := h
  simp only at HNUM HFRM HF HRF
  obtain ⟨W2, hW2⟩ : ∃ W, W = ((w.alloc (.cells #[.slice fA p.funcs.length fc, .int .i64 p.mutexes, .slice cA p.conds.length cc, .slice sA p.semas.length sc, .slice hA p.chans.length hc, .slice xA p.choices.length xc, .int .i64 p.threads] 26)).alloc (.cells #[.int .i64 t.state, .int .i64 t.on, .slice tA t.frames.length tc, .slice kA t.stack.length kc, .int .i64 t.code] 29)).alloc (.cells #[.int .i64 0, .int .i64 0, .slice none 0 0, .slice none 0 0, .int .i64 0] 29) := ⟨_, rfl⟩
  have hz : W2.heap.size = w.heap.size + 1 + 1 + 1 := by rw [hW2]; simp
  have hpb2 : Blk W2 w.heap.size 26 #[.slice fA p.funcs.length fc, .int .i64 p.mutexes, .slice cA p.conds.length cc, .slice sA p.semas.length sc, .slice hA p.chans.length hc, .slice xA p.choices.length xc, .int .i64 p.threads] := by rw [hW2]; exact ((Blk.new w _ _).alloc _).alloc _
  have hbx2 : Blk W2 (w.heap.size + 1) 29 #[.int .i64 t.state, .int .i64 t.on, .slice tA t.frames.length tc, .slice kA t.stack.length kc, .int .i64 t.code] := by rw [hW2]; refine Blk.alloc ?_ _; simpa using Blk.new (w.alloc (.cells #[.slice fA p.funcs.length fc, .int .i64 p.mutexes, .slice cA p.conds.length cc, .slice sA p.semas.length sc, .slice hA p.chans.length hc, .slice xA p.choices.length xc, .int .i64 p.threads] 26)) 29 #[.int .i64 t.state, .int .i64 t.on, .slice tA t.frames.length tc, .slice kA t.stack.length kc, .int .i64 t.code]
  have hrb2 : Blk W2 (w.heap.size + 1 + 1) 29 #[.int .i64 0, .int .i64 0, .slice none 0 0, .slice none 0 0, .int .i64 0] := by rw [hW2]; simpa using Blk.new ((w.alloc (.cells #[.slice fA p.funcs.length fc, .int .i64 p.mutexes, .slice cA p.conds.length cc, .slice sA p.semas.length sc, .slice hA p.chans.length hc, .slice xA p.choices.length xc, .int .i64 p.threads] 26)).alloc (.cells #[.int .i64 t.state, .int .i64 t.on, .slice tA t.frames.length tc, .slice kA t.stack.length kc, .int .i64 t.code] 29)) 29 #[.int .i64 0, .int .i64 0, .slice none 0 0, .slice none 0 0, .int .i64 0]
  have hbel2 : Below w.heap.size w W2 := by rw [hW2]; exact (((Below.refl w.heap.size w).alloc (Nat.le_refl _) _).alloc (by simp) _).alloc (by simp; omega) _
  have HW2 := Lib.hid hW2; have H1 := Lib.hid hpb2; have H2 := Lib.hid hbx2; have H3 := Lib.hid hrb2; have H4 := Lib.hid hbel2; have HZ := Lib.hid hz
  clear hW2 hz hpb2 hbx2 hrb2 hbel2
  go_enter Try.func10, Try.ntmps10
  go_wp2_with fail
  rw [← HW2.out]
  refine (HNUM.out W2 H4.out).mono ?_
  rintro e w1 ⟨qA, qc, rfl, hown, hb1⟩
  have hz1 := hb1.size
  have hzW := HZ.out
  have hg : G4 w (w1.alloc (.cells #[.int .i64 0, .int .i64 0, .slice none 0 0, .slice qA (numL t.stack 16).length qc, .int .i64 0] 29)) ⟨fA, fc, cA, cc, sA, sc, hA, hc, xA, xc⟩ p ⟨tA, tc, kA, kc⟩ t w1.heap.size none 0 0 qA (numL t.stack 16).length qc [] (numL t.stack 16) := by
    refine ⟨(H1.out.below hb1 (by omega)).alloc _, (H2.out.below hb1 (by omega)).alloc _, (H3.out.below hb1 (by omega)).alloc _, Blk.new _ _ _, World.ownsRow_nil _ _ _ _, fun x hx => by simp at hx, (own_mono hown (by omega)).alloc _, (H4.out.trans (hb1.mono (by omega))).alloc (by omega) _, by omega, fun x hx => by simp at hx⟩
  have HG := Lib.hid hg
  have hqn : (numL t.stack 16).length ≤ 16 := by simp [numL]; omega
  obtain ⟨ob, hob⟩ : ∃ b, b = w1.heap.size := ⟨_, rfl⟩
  clear hown hg HW2 H1 H2 H3 H4 HZ HNUM hzW hz1 hb1
  go_wp2_with fail
  rw [← hob] at HG ⊢
  clear hob
  go_loopw [6] (fun s6 wr => ∃ (i : Nat) (vA : Option Addr) (vc : Nat) (ts : List TFr), i ≤ t.frames.length ∧ i ≤ 8 ∧ s6 = .int .i64 (i : Int) ∧ G4 w wr ⟨fA, fc, cA, cc, sA, sc, hA, hc, xA, xc⟩ p ⟨tA, tc, kA, kc⟩ t ob vA i vc qA (numL t.stack 16).length qc ts (numL t.stack 16) ∧ ts.map TFr.f = (t.frames.take i).map (goodFr p)) (fun s6 _ => 8 - (intOf s6).toNat)
  case atStart => exact ⟨0, none, 0, [], by omega, by omega, rfl, HG.out, rfl⟩
  case round =>
    obtain ⟨i, vA, vc, ts, hi1, hi2, rfl, g, hts⟩ := hrel
    have G := Lib.hid g; have HTS := Lib.hid hts
    have zb := g.bel.size
    have z0 := g.pb.lt
    have z1 := g.tb.lt
    have z2 := g.rb.lt
    have z3 := g.oB.lt
    clear hts
    by_cases hcnd : i < t.frames.length ∧ i < 8
    · obtain ⟨hlt1, hlt2⟩ := hcnd
      obtain ⟨ad, x, rfl, hab, hx, a0, a1, a2, hri⟩ := HF.out.at_ hlt1
      obtain ⟨hxf, hxp, hxl⟩ := HFF.out x.f (List.mem_of_getElem? hx)
      have hfb := around_bd x.f.func p.funcs.length (by omega)
      have har := fun W => around_any x.f.func p.funcs.length W hxf.1 hxf.2 (by omega) (by omega)
      have HAR := Lib.hid har; have HX := Lib.hid hx
      obtain ⟨f, hf⟩ := Int.eq_ofNat_of_zero_le hfb.1
      have hfN : f < p.funcs.length := by omega
      rw [hf] at HAR
      have HFE := Lib.hid hf
      have x2 : wr.cell? ⟨w.heap.size + 1, 2, none⟩ = some (.slice (some ad) t.frames.length tc) := (g.tb.cell 2).trans rfl
      have KS : Hid (∀ X, Below wr.heap.size wr X → X.cell? ⟨w.heap.size, 0, none⟩ = some (.slice fA p.funcs.length fc) ∧ X.cell? ⟨w.heap.size, 1, none⟩ = some (.int .i64 p.mutexes) ∧ X.cell? ⟨w.heap.size, 2, none⟩ = some (.slice cA p.conds.length cc) ∧ X.cell? ⟨w.heap.size, 3, none⟩ = some (.slice sA p.semas.length sc) ∧ X.cell? ⟨w.heap.size, 4, none⟩ = some (.slice hA p.chans.length hc) ∧ X.cell? ⟨w.heap.size, 5, none⟩ = some (.slice xA p.choices.length xc) ∧ X.cell? ⟨w.heap.size, 6, none⟩ = some (.int .i64 p.threads) ∧ X.cell? ⟨w.heap.size + 1, 2, none⟩ = some (.slice (some ad) t.frames.length tc) ∧ X.cell? (ad.add (i * 3)) = some (.int .i64 x.f.func)) := by
        intro X hX
        have pb := g.pb.below hX z0
        exact ⟨(pb.cell 0).trans rfl, (pb.cell 1).trans rfl, (pb.cell 2).trans rfl, (pb.cell 3).trans rfl, (pb.cell 4).trans rfl, (pb.cell 5).trans rfl, (pb.cell 6).trans rfl, ((g.tb.below hX z1).cell 2).trans rfl, ((g.bel.trans (hX.mono zb)).cell (p := ad.add (i * 3)) (by rw [block_of_add]; exact hab)).trans a0⟩
      obtain ⟨m, hm⟩ : ∃ m, m = (funcAt p f).locals.toNat := ⟨_, rfl⟩
      have hm8 : m ≤ 8 := by rw [hm]; have := HFEW.out _ (funcAt_mem (p := p) (f := (f : Int)) (by omega) (by omega)); omega
      have hFC : ∀ X, Below wr.heap.size wr X → Calls Try.prog 29 #[.agg #[.slice fA p.funcs.length fc, .int .i64 p.mutexes, .slice cA p.conds.length cc, .slice sA p.semas.length sc, .slice hA p.chans.length hc, .slice xA p.choices.length xc, .int .i64 p.threads], .int .i64 (f : Int)] X fun e w' => ∃ A c, e = .returned (.agg #[.int .i64 (f : Int), .int .i64 0, .slice A m c]) ∧ w'.ownsRow X.heap.size 3 1 (.slice A m c) m (IS (List.replicate m 0)) ∧ Below X.heap.size X w' ∧ Below wr.heap.size wr w' := fun X hX =>
        (HFRM.out X (g.bel.trans (hX.mono zb)) f hfN).mono fun e w' ⟨A, c, he, ho, hb⟩ => ⟨A, c, by rw [he, hm], by rw [hm]; exact ho, hb, hX.trans (hb.mono hX.size)⟩
      have HFC := Lib.hid hFC; have HM := Lib.hid hm
      obtain ⟨p0, p1, p2, p3, p4, p5, p6, p7, p8⟩ := KS.out wr (Below.refl _ _)
      clear g hx a0 a1 a2 hri har hfb hf hFC hm hxl
      go_upto_region 5 with fail
      go_cut [7] (fun s7 wx => FrCut wr f m s7 wx)
      case first =>
        go_region_held3 (fun w' => w'.cell? ⟨w.heap.size, 0, none⟩ = some (.slice fA p.funcs.length fc) ∧ w'.cell? ⟨w.heap.size, 1, none⟩ = some (.int .i64 p.mutexes) ∧ w'.cell? ⟨w.heap.size, 2, none⟩ = some (.slice cA p.conds.length cc) ∧ w'.cell? ⟨w.heap.size, 3, none⟩ = some (.slice sA p.semas.length sc) ∧ w'.cell? ⟨w.heap.size, 4, none⟩ = some (.slice hA p.chans.length hc) ∧ w'.cell? ⟨w.heap.size, 5, none⟩ = some (.slice xA p.choices.length xc) ∧ w'.cell? ⟨w.heap.size, 6, none⟩ = some (.int .i64 p.threads) ∧ w'.cell? ⟨w.heap.size + 1, 2, none⟩ = some (.slice (some ad) t.frames.length tc) ∧ w'.cell? (ad.add (i * 3)) = some (.int .i64 x.f.func))
          (first | (exact KS.out _ (by repeat (first | assumption | exact Below.refl _ _ | refine Below.drew ?_ | refine Below.setCell ?_ (by first | exact Nat.le_refl _ | exact h5.size | omega) _ | refine Below.alloc ?_ (by first | exact h5.size | exact Nat.le_refl _ | omega) _))))
          (first
            | (go_simp; refine (HAR.out _).mono ?_; rintro e wq ⟨rfl, rfl⟩)
            | (go_simp; refine (HFC.out _ (by repeat (first | assumption | exact Below.refl _ _ | refine Below.drew ?_ | refine Below.alloc ?_ (by first | exact Nat.le_refl _ | omega) _))).mono ?_; rintro e w5 ⟨A, c, rfl, ho5, h4, h5⟩
               obtain ⟨hcc, hff⟩ := below_cells h4
               have hzz := h4.size
               simp at hzz))
        all_goals
          go_wp2_with fail
          go_meet
          first
            | exact ⟨_, A, c, rfl, h5.size, Blk.new _ _ _, (own_mono ho5 (Nat.le_refl _)).alloc _, h5.alloc h5.size _⟩
            | (have nb0 : Blk w5 wr.heap.size 67 #[.int .i64 0, .int .i64 0, .slice none 0 0] := (Blk.drew (Blk.new wr 67 #[.int .i64 0, .int .i64 0, .slice none 0 0])).below h4 (by simp)
               have hfr := (Fr.refl (fun j => j = wr.heap.size) w5).set3 (g := wr.heap.size) (.inl rfl) (.int .i64 (f : Int)) (.int .i64 0) (.slice A m c)
               exact ⟨_, A, c, rfl, Nat.le_refl _, nb0.set3 _ _ _, own_mono (hfr.own ho5 (fun j hj e => own_blk_ne ho5 nb0 (by decide) (by rw [hj, e]))) (by simp), h5.trans (hfr.below h5.size (fun j hj => by omega))⟩)
      case rest =>
        obtain ⟨bx, A, c, rfl, hbx, hbk, hlo, hbc⟩ := hcut
        obtain ⟨ad', x', hade, hab, hx', a0, a1, a2, hri⟩ := HF.out.at_ hlt1
        injection hade with hade
        subst hade
        have hxe : x'.f = x.f := by rw [HX.out] at hx'; injection hx' with e; exact e.symm
        obtain ⟨adF, tf, hfA, habF, hiF, cF0, cF1, _⟩ := HRF.out.at_ hfN
        subst hfA
        have hfa : funcAt p f = tf.f := by unfold funcAt; rw [show ((f : Int)).toNat = f by omega, List.getD_eq_getElem?_getD, hiF]; rfl
        have hcl := HCL.out _ (List.mem_of_getElem? hiF)
        have har := fun W => around_any x.f.pc ((tf.f.code.length : Int) + 1) W hxp.1 hxp.2 (by omega) (by omega)
        have HAR2 := Lib.hid har
        obtain ⟨pc, hpc⟩ : ∃ pc, pc = around x.f.pc ((tf.f.code.length : Int) + 1) := ⟨_, rfl⟩
        rw [← hpc] at HAR2
        have HPC := Lib.hid hpc
        have hgc := G.out.below hbc
        have GC := Lib.hid hgc; have HLO := Lib.hid hlo; have HBK := Lib.hid hbk; have HBC := Lib.hid hbc
        have zc := hbc.size
        have zbx := hbk.lt
        rw [hxe] at a1 a2 hri
        have HA2 := Lib.hid a2; have HRI := Lib.hid hri; have HFA := Lib.hid hfa
        have y2 : wc.cell? ⟨w.heap.size + 1, 2, none⟩ = some (.slice (some ad) t.frames.length tc) := (hgc.tb.cell 2).trans rfl
        have yp : wc.cell? ⟨(ad.add (i * 3)).block, (ad.add (i * 3)).off + 1, none⟩ = some (.int .i64 x.f.pc) := (hgc.bel.cell (p := ⟨(ad.add (i * 3)).block, (ad.add (i * 3)).off + 1, none⟩) (by show (ad.add (i * 3)).block < _; rw [block_of_add]; exact hab)).trans a1
        have y0 : wc.cell? ⟨w.heap.size, 0, none⟩ = some (.slice (some adF) p.funcs.length fc) := (hgc.pb.cell 0).trans rfl
        have yb : wc.cell? ⟨bx, 0, none⟩ = some (.int .i64 (f : Int)) := (hbk.cell 0).trans rfl
        have yb1 : wc.cell? ⟨bx, 1, none⟩ = some (.int .i64 0) := (hbk.cell 1).trans rfl
        have yf := hbk.frozen 1
        have yc : wc.cell? ⟨(adF.add (f * 2)).block, (adF.add (f * 2)).off + 1, none⟩ = some (.slice tf.A tf.f.code.length tf.c) := (hgc.bel.cell (p := ⟨(adF.add (f * 2)).block, (adF.add (f * 2)).off + 1, none⟩) (by show (adF.add (f * 2)).block < _; rw [block_of_add]; omega)).trans cF1
        have hfi : (f : Int) < (p.funcs.length : Int) := by omega
        have i6 : IntKind.i64.wrap ((tf.f.code.length : Int) + 1) = (tf.f.code.length : Int) + 1 := IntWalk.i64_in _ (by omega)
        have KB : Hid (∀ v, (wc.setCell ⟨bx, 1, none⟩ v).drew.cell? ⟨w.heap.size + 1, 2, none⟩ = some (.slice (some ad) t.frames.length tc) ∧ (wc.setCell ⟨bx, 1, none⟩ v).drew.cell? ⟨(ad.add (i * 3)).block, (ad.add (i * 3)).off + 1, none⟩ = some (.int .i64 x.f.pc) ∧ (wc.setCell ⟨bx, 1, none⟩ v).drew.cell? ⟨w.heap.size, 0, none⟩ = some (.slice (some adF) p.funcs.length fc) ∧ (wc.setCell ⟨bx, 1, none⟩ v).drew.cell? ⟨bx, 0, none⟩ = some (.int .i64 (f : Int)) ∧ (wc.setCell ⟨bx, 1, none⟩ v).drew.cell? ⟨(adF.add (f * 2)).block, (adF.add (f * 2)).off + 1, none⟩ = some (.slice tf.A tf.f.code.length tf.c)) := by
          intro v
          have hfar : ∀ q : Addr, q.block ≠ bx → (wc.setCell ⟨bx, 1, none⟩ v).drew.cell? q = wc.cell? q := fun q hq => cell_far _ _ _ _ hq
          refine ⟨(hfar _ (by show w.heap.size + 1 ≠ bx; omega)).trans y2, (hfar _ (by show (ad.add (i * 3)).block ≠ bx; rw [block_of_add]; omega)).trans yp, (hfar _ (by show w.heap.size ≠ bx; omega)).trans y0, ?_, (hfar _ (by show (adF.add (f * 2)).block ≠ bx; rw [block_of_add]; omega)).trans yc⟩
          exact ((hbk.set_ 1 v).cell 0).trans rfl
        have KB0 : Hid (wc.drew.cell? ⟨w.heap.size + 1, 2, none⟩ = some (.slice (some ad) t.frames.length tc) ∧ wc.drew.cell? ⟨(ad.add (i * 3)).block, (ad.add (i * 3)).off + 1, none⟩ = some (.int .i64 x.f.pc) ∧ wc.drew.cell? ⟨w.heap.size, 0, none⟩ = some (.slice (some adF) p.funcs.length fc) ∧ wc.drew.cell? ⟨bx, 0, none⟩ = some (.int .i64 (f : Int)) ∧ wc.drew.cell? ⟨(adF.add (f * 2)).block, (adF.add (f * 2)).off + 1, none⟩ = some (.slice tf.A tf.f.code.length tf.c)) := ⟨y2, yp, y0, yb, yc⟩
        clear hx' a0 a1 a2 hri hxe hiF cF0 cF1 hfa har hpc hgc hlo hbk hbc p0 p1 p2 p3 p4 p5 p6 p7 p8 x2
        go_upto_region 6 with fail
        go_region_held3 (fun w' => w'.cell? ⟨w.heap.size + 1, 2, none⟩ = some (.slice (some ad) t.frames.length tc) ∧ w'.cell? ⟨(ad.add (i * 3)).block, (ad.add (i * 3)).off + 1, none⟩ = some (.int .i64 x.f.pc) ∧ w'.cell? ⟨w.heap.size, 0, none⟩ = some (.slice (some adF) p.funcs.length fc) ∧ w'.cell? ⟨bx, 0, none⟩ = some (.int .i64 (f : Int)) ∧ w'.cell? ⟨(adF.add (f * 2)).block, (adF.add (f * 2)).off + 1, none⟩ = some (.slice tf.A tf.f.code.length tf.c))
          (first | with_reducible exact KB0.out | with_reducible exact KB.out _)
          ((go_simp; refine (HAR2.out _).mono ?_; rintro e wq ⟨rfl, rfl⟩))
        all_goals
          have hb6 : Blk ((wc.setCell ⟨bx, 1, none⟩ (.int .i64 pc)).drew) bx 67 #[.int .i64 (f : Int), .int .i64 pc, .slice A m c] := by simpa using (HBK.out.set_ 1 (.int .i64 pc)).drew
          have hfr6 : Fr (fun j => j = bx) wc ((wc.setCell ⟨bx, 1, none⟩ (.int .i64 pc)).drew) := ((Fr.refl (fun j => j = bx) wc).setCell (p := ⟨bx, 1, none⟩) (.inl rfl) _).drew
          have ho6 : ((wc.setCell ⟨bx, 1, none⟩ (.int .i64 pc)).drew).ownsRow wr.heap.size 3 1 (.slice A m c) m (IS (locK m x.f.locals 0)) := by rw [locK_zero]; exact hfr6.own HLO.out (fun j hj e => own_blk_ne HLO.out HBK.out (by decide) (by rw [hj, e]))
          have hB6 : Below wr.heap.size wr ((wc.setCell ⟨bx, 1, none⟩ (.int .i64 pc)).drew) := HBC.out.trans (hfr6.below HBC.out.size (fun j hj => by omega))
          obtain ⟨W6, hW6⟩ : ∃ W, W = (wc.setCell ⟨bx, 1, none⟩ (.int .i64 pc)).drew := ⟨_, rfl⟩
          rw [← hW6] at hb6 ho6 hB6 ⊢
          have B6 := Lib.hid hb6; have O6 := Lib.hid ho6; have L6 := Lib.hid hB6
          clear hb6 hfr6 ho6 hB6 hW6 KB KB0 y2 yp y0 yb yb1 yf yc HAR2 i6
          go_wp2_with fail
          go_loopw [8] (fun s8 wl => ∃ k : Nat, k ≤ m ∧ k ≤ x.f.locals.length ∧ s8 = .int .i64 (k : Int) ∧ Blk wl bx 67 #[.int .i64 (f : Int), .int .i64 pc, .slice A m c] ∧ wl.ownsRow wr.heap.size 3 1 (.slice A m c) m (IS (locK m x.f.locals k)) ∧ Below wr.heap.size wr wl) (fun s8 _ => m - (intOf s8).toNat)
          case atStart => exact ⟨0, by omega, by omega, rfl, B6.out, O6.out, L6.out⟩
          case round =>
            obtain ⟨wl, rfl⟩ : ∃ q, q = wr := ⟨_, rfl⟩
            obtain ⟨k, hk1, hk2, rfl, hbk, hown, hbel⟩ := hrel
            have zl := hbel.size
            have gl := G.out.below hbel
            have GL := Lib.hid gl; have OL := Lib.hid hown; have BKL := Lib.hid hbk; have BL := Lib.hid hbel
            have zob := gl.oB.lt
            have zbl := hbk.lt
            have zwl := gl.bel.size
            have y2 : wl.cell? ⟨w.heap.size + 1, 2, none⟩ = some (.slice (some ad) t.frames.length tc) := (gl.tb.cell 2).trans rfl
            have yl0 : wl.cell? ⟨(ad.add (i * 3)).block, (ad.add (i * 3)).off + 2, none⟩ = some (.slice x'.A x.f.locals.length x'.c) := (gl.bel.cell (p := ⟨(ad.add (i * 3)).block, (ad.add (i * 3)).off + 2, none⟩) (by show (ad.add (i * 3)).block < _; rw [block_of_add]; exact hab)).trans HA2.out
            have yb : wl.cell? ⟨bx, 2, none⟩ = some (.slice A m c) := (hbk.cell 2).trans rfl
            by_cases hck : k < m ∧ k < x.f.locals.length
            · obtain ⟨hk3, hk4⟩ := hck
              obtain ⟨adO, z, hxA, habO, hz, hcO⟩ := HRI.out.at_ hk4
              have yo : wl.cell? (adO.add k) = some (.int .i64 z) := (gl.bel.cell (p := adO.add k) (by rw [block_of_add]; exact habO)).trans hcO
              rw [hxA] at yl0
              obtain ⟨gA, cap, hv, hgb, hgz⟩ := hown.form (by omega)
              injection hv with hv1 _ hv2
              subst hv1 hv2
              have hlk := locK_length m x.f.locals k hk1 hk2
              have hex : (IS (locK m x.f.locals k))[k]? = some ((IS (locK m x.f.locals k))[k]'(by rw [IS_length]; omega)) := List.getElem?_eq_getElem _
              have r0 := (hown.cellAt k (by omega)).trans hex
              have f0 := hown.frozenAt k
              have hne : gA ≠ bx := by
                intro e
                exact own_blk_ne hown hbk (by decide) (by simp [Value.ownBlock, e])
              have hsn := (hown.stored k (.int .i64 (keep z))).1
              have hset : (IS (locK m x.f.locals k)).set k (.int .i64 (keep z)) = IS (locK m x.f.locals (k + 1)) := by
                rw [← locK_succ m x.f.locals k z hk3 hz]; simp [IS, List.map_set]
              rw [hset] at hsn
              have HSN := Lib.hid hsn
              have KB0 : Hid (wl.drew.cell? ⟨bx, 2, none⟩ = some (.slice (some ⟨gA, 0, none⟩) m c) ∧ wl.drew.cell? ⟨w.heap.size + 1, 2, none⟩ = some (.slice (some ad) t.frames.length tc) ∧ wl.drew.cell? ⟨(ad.add (i * 3)).block, (ad.add (i * 3)).off + 2, none⟩ = some (.slice (some adO) x.f.locals.length x'.c) ∧ wl.drew.cell? (adO.add k) = some (.int .i64 z)) := ⟨yb, y2, yl0, yo⟩
              have KB : Hid (∀ v, (wl.setCell ⟨gA, k, none⟩ v).drew.cell? ⟨bx, 2, none⟩ = some (.slice (some ⟨gA, 0, none⟩) m c) ∧ (wl.setCell ⟨gA, k, none⟩ v).drew.cell? ⟨w.heap.size + 1, 2, none⟩ = some (.slice (some ad) t.frames.length tc) ∧ (wl.setCell ⟨gA, k, none⟩ v).drew.cell? ⟨(ad.add (i * 3)).block, (ad.add (i * 3)).off + 2, none⟩ = some (.slice (some adO) x.f.locals.length x'.c) ∧ (wl.setCell ⟨gA, k, none⟩ v).drew.cell? (adO.add k) = some (.int .i64 z)) := by
                intro v
                have hfar : ∀ q : Addr, q.block ≠ gA → (wl.setCell ⟨gA, k, none⟩ v).drew.cell? q = wl.cell? q := fun q hq => cell_far _ _ _ _ hq
                exact ⟨(hfar _ (by show bx ≠ gA; omega)).trans yb, (hfar _ (by show w.heap.size + 1 ≠ gA; omega)).trans y2, (hfar _ (by show (ad.add (i * 3)).block ≠ gA; rw [block_of_add]; omega)).trans yl0, (hfar _ (by rw [block_of_add]; omega)).trans yo⟩
              have hkm : (k : Int) < (m : Int) := by omega
              generalize (IS (locK m x.f.locals k))[k]'(by rw [IS_length]; omega) = old at r0
              clear gl hown hbk hbel hz hcO hex hsn hset hlk hxA
              go_upto_region 10 with fail
              go_region_held3 (fun w' => w'.cell? ⟨bx, 2, none⟩ = some (.slice (some ⟨gA, 0, none⟩) m c) ∧ w'.cell? ⟨w.heap.size + 1, 2, none⟩ = some (.slice (some ad) t.frames.length tc) ∧ w'.cell? ⟨(ad.add (i * 3)).block, (ad.add (i * 3)).off + 2, none⟩ = some (.slice (some adO) x.f.locals.length x'.c) ∧ w'.cell? (adO.add k) = some (.int .i64 z))
                (first | with_reducible exact KB0.out | with_reducible exact KB.out _)
                ((go_simp; refine (refKeep_any z _).mono ?_; rintro e wq ⟨rfl, rfl⟩))
              all_goals
                go_wp2_with fail
                have hfl : Fr (fun j => j = gA) wl ((wl.setCell ⟨gA, k, none⟩ (.int .i64 (keep z))).drew) := ((Fr.refl (fun j => j = gA) wl).setCell (p := ⟨gA, k, none⟩) (.inl rfl) _).drew
                exact ⟨⟨k + 1, by omega, by omega, by go_num, hfl.blk BKL.out (fun e => hne e.symm), HSN.out, BL.out.trans (hfl.below zl (fun j hj => by omega))⟩, by simp [intOf]; omega⟩
            · have hloc := locK_end m x.f.locals k hk1 hk2 hck
              have hll : (goodLoc m x.f.locals).length = m := by rw [← hloc]; exact locK_length _ _ _ hk1 hk2
              rw [hloc] at hown
              have hfe : goodFr p x.f = ⟨(f : Int), pc, goodLoc m x.f.locals⟩ := by
                have e1 : around x.f.func p.funcs.length = (f : Int) := HFE.out
                unfold goodFr
                rw [e1, HFA.out, ← HPC.out, ← HFA.out, ← HM.out]
              have hrow6 : (wl.alloc (.cells #[.int .i64 (f : Int), .int .i64 pc, .slice A m c] 67)).ownsRow (w.heap.size + 1 + 1 + 1) 67 3 (.slice vA i vc) i (FrS ts) := gl.row.alloc _
              have hnew6 := Reads.of_own (own_frame wl ⟨(f : Int), pc, goodLoc m x.f.locals⟩ A c m hll)
              have o2 : wl.cell? ⟨ob, 2, none⟩ = some (.slice vA i vc) := (gl.oB.cell 2).trans rfl
              have b0 : wl.cell? ⟨bx, 0, none⟩ = some (.int .i64 (f : Int)) := (hbk.cell 0).trans rfl
              have b1 : wl.cell? ⟨bx, 1, none⟩ = some (.int .i64 pc) := (hbk.cell 1).trans rfl
              have HROW := Lib.hid hrow6; have HNEW := Lib.hid hnew6; have HLOC := Lib.hid hown; have HLL2 := Lib.hid hll; have HFE2 := Lib.hid hfe
              clear hloc hll hown hfe hrow6 hnew6 gl hbk hbel
              by_cases hk3 : k < m
              all_goals
                try have hk4 : ¬ k < x.f.locals.length := by omega
                clear hck
                go_wp2_with (at_builtin; go_must (refine wpList_append_any _ rfl (.tmp 86) (.tmp 88) _ rfl (w.heap.size + 1 + 1 + 1) 67 i0 _ 3 40 Try.underlying27 hi0 hz0 hz1 hz2 rfl (by decide) (.slice vA i vc) i (FrS ts) rfl HROW.out _ (some ⟨wl.heap.size, 0, none⟩) 1 1 (FrS [⟨⟨(f : Int), pc, goodLoc m x.f.locals⟩, A, c⟩]) rfl HNEW.out (FrS_one _) ?c1 ?c2 (by simp; omega) ?k))
                case c1 => unfold maxLen; omega
                case c2 => omega
                case k =>
                intro v' w7 hown7 hg7 hat7
                obtain ⟨An, cn, rfl, _, _⟩ := own_slice hown7
                rw [FrS_append] at hown7
                have hF : Fr (fun j => (Value.slice vA i vc).ownBlock = some j) wl w7 := ((Fr.refl _ wl).alloc _).trans (Fr.of_grown hg7) (fun j _ h => h)
                have ob7 := hF.blk GL.out.oB (own_blk_ne GL.out.row GL.out.oB (by decide))
                have hz7 := hF.size
                have q2 := (ob7.cell 2).trans rfl
                have qf := ob7.frozen 2
                have hf8 := (Fr.refl (fun j => j = ob) w7).setCell (p := ⟨ob, 2, none⟩) (.inl rfl) (.slice An (i + 1) cn)
                have hg8 : G4 w (w7.setCell ⟨ob, 2, none⟩ (.slice An (i + 1) cn)) ⟨some adF, fc, cA, cc, sA, sc, hA, hc, xA, xc⟩ p ⟨some ad, tc, kA, kc⟩ t ob An (i + 1) cn qA (numL t.stack 16).length qc (ts ++ [⟨⟨(f : Int), pc, goodLoc m x.f.locals⟩, A, c⟩]) (numL t.stack 16) := by
                  have hob := GL.out.hob
                  refine ⟨hf8.blk (hF.blk GL.out.pb (own_blk_ne GL.out.row GL.out.pb (by decide))) (by omega), hf8.blk (hF.blk GL.out.tb (own_blk_ne GL.out.row GL.out.tb (by decide))) (by omega), hf8.blk (hF.blk GL.out.rb (own_blk_ne GL.out.row GL.out.rb (by decide))) (by omega), by simpa using ob7.set_ 2 (.slice An (i + 1) cn),
                    hf8.own hown7 (fun j hj e => own_blk_ne hown7 ob7 (by decide) (by rw [hj, e])), fun y hy => ?_, hf8.own (hF.own GL.out.stk (own_ne GL.out.stk GL.out.row (by decide))) (fun j hj e => own_blk_ne (hF.own GL.out.stk (own_ne GL.out.stk GL.out.row (by decide))) ob7 (by decide) (by rw [hj, e])),
                    (GL.out.bel.trans (hF.below zwl (fun j hj => by have := (GL.out.row.lt j hj).1; omega))).trans (hf8.below (by omega) (fun j hj => by omega)), hob, fun y hy => ?_⟩
                  rotate_left
                  · rcases List.mem_append.1 hy with hy | hy
                    · exact GL.out.apart y hy
                    · simp at hy
                      subst hy
                      have h0 : wl.ownsRow wr.heap.size 3 1 (.slice A (goodLoc m x.f.locals).length c) (goodLoc m x.f.locals).length (IS (goodLoc m x.f.locals)) := by rw [HLL2.out]; exact HLOC.out
                      intro j hj e
                      have l1 := (h0.lt j hj).1
                      have l2 := (G.out.stk.lt j e).2
                      omega
                  rcases List.mem_append.1 hy with hy | hy
                  · have h1 := hF.own (GL.out.each y hy) (own_ne (GL.out.each y hy) GL.out.row (by decide))
                    exact hf8.own h1 (fun j hj e => own_blk_ne h1 ob7 (by decide) (by rw [hj, e]))
                  · simp at hy
                    subst hy
                    have h0 : wl.ownsRow wr.heap.size 3 1 (.slice A (goodLoc m x.f.locals).length c) (goodLoc m x.f.locals).length (IS (goodLoc m x.f.locals)) := by rw [HLL2.out]; exact HLOC.out
                    have h1 := hF.own h0 (own_ne h0 GL.out.row (by decide))
                    exact own_mono (hf8.own h1 (fun j hj e => own_blk_ne h1 ob7 (by decide) (by rw [hj, e]))) (by omega)
                have hts2 : (ts ++ [(⟨⟨(f : Int), pc, goodLoc m x.f.locals⟩, A, c⟩ : TFr)]).map TFr.f = (t.frames.take (i + 1)).map (goodFr p) := by
                  rw [List.map_append, HTS.out, List.take_add_one, HX.out]
                  simp [HFE2.out]
                have G8 := Lib.hid hg8; have T8 := Lib.hid hts2
                clear hown7 hg7 hat7 hF ob7 hf8 hg8 hts2 o2 b0 b1 yb y2 yl0
                go_wp2_with fail
                exact ⟨⟨i + 1, An, cn, _, by omega, by omega, by go_num, G8.out, T8.out⟩, by simp [intOf]; omega⟩
    · have x2 : wr.cell? ⟨w.heap.size + 1, 2, none⟩ = some (.slice tA t.frames.length tc) := (g.tb.cell 2).trans rfl
      have hob := g.hob
      by_cases hi0 : i = 0
      · subst hi0
        have hl0 : t.frames.length = 0 := by omega
        have hnil : t.frames = [] := List.eq_nil_of_length_eq_zero hl0
        rw [hl0] at x2
        have HNIL := Lib.hid hnil
        have hcon := HFRM.out wr g.bel 0 (by omega)
        have HCON := Lib.hid hcon
        have o2 : wr.cell? ⟨ob, 2, none⟩ = some (.slice vA 0 vc) := (g.oB.cell 2).trans rfl
        have p0 : wr.cell? ⟨w.heap.size, 0, none⟩ = some (.slice fA p.funcs.length fc) := (g.pb.cell 0).trans rfl
        have p1 : wr.cell? ⟨w.heap.size, 1, none⟩ = some (.int .i64 p.mutexes) := (g.pb.cell 1).trans rfl
        have p2 : wr.cell? ⟨w.heap.size, 2, none⟩ = some (.slice cA p.conds.length cc) := (g.pb.cell 2).trans rfl
        have p3 : wr.cell? ⟨w.heap.size, 3, none⟩ = some (.slice sA p.semas.length sc) := (g.pb.cell 3).trans rfl
        have p4 : wr.cell? ⟨w.heap.size, 4, none⟩ = some (.slice hA p.chans.length hc) := (g.pb.cell 4).trans rfl
        have p5 : wr.cell? ⟨w.heap.size, 5, none⟩ = some (.slice xA p.choices.length xc) := (g.pb.cell 5).trans rfl
        have p6 : wr.cell? ⟨w.heap.size, 6, none⟩ = some (.int .i64 p.threads) := (g.pb.cell 6).trans rfl
        obtain ⟨m, hm⟩ : ∃ m, m = (funcAt p ((0 : Nat) : Int)).locals.toNat := ⟨_, rfl⟩
        rw [← hm] at HCON
        have HM := Lib.hid hm
        have hne : w.heap.size + 1 + 1 ≠ ob := by omega
        clear hnil hcon hl0 hm hcnd g
        go_wp2_with fail
        refine HCON.out.mono ?_
        rintro e w5 ⟨A, c, rfl, ho5, hb5⟩
        have g5 := G.out.below hb5
        have G5 := Lib.hid g5; have HO5 := Lib.hid ho5
        have z5 := hb5.size
        have zo5 : ob < w5.heap.size := by omega
        have zr5 : w.heap.size + 1 + 1 < w5.heap.size := by omega
        clear o2 p0 p1 p2 p3 p4 p5 p6 x2
        have q2 := fun o => (g5.oB.alloc o).frozen 2
        have o2 := fun o => ((g5.oB.alloc o).cell 2).trans rfl
        have hob5 := G5.out.hob
        clear g5 ho5 hb5
        go_upto_region 14 with fail
        obtain ⟨W6, hW6⟩ : ∃ W, W = (w5.setCell ⟨ob, 2, none⟩ (.slice (some ⟨w5.heap.size, 0, none⟩) 1 1)).alloc (.cells #[.int .i64 0, .int .i64 0, .slice A m c] 67) := ⟨_, rfl⟩
        rw [← hW6]
        have g6 : G4 w W6 ⟨fA, fc, cA, cc, sA, sc, hA, hc, xA, xc⟩ p ⟨tA, tc, kA, kc⟩ t ob (some ⟨w5.heap.size, 0, none⟩) 1 1 qA (numL t.stack 16).length qc [⟨newFr p 0, A, c⟩] (numL t.stack 16) := by
          have hf := (Fr.refl (fun j => j = ob) w5).setCell (p := ⟨ob, 2, none⟩) (.inl rfl) (.slice (some ⟨w5.heap.size, 0, none⟩) 1 1)
          have hz : (w5.setCell ⟨ob, 2, none⟩ (.slice (some ⟨w5.heap.size, 0, none⟩) 1 1)).heap.size = w5.heap.size := by simp
          have hll : (newFr p 0).locals.length = m := by rw [HM.out]; exact List.length_replicate
          have hrow := own_frame (w5.setCell ⟨ob, 2, none⟩ (.slice (some ⟨w5.heap.size, 0, none⟩) 1 1)) (newFr p 0) A c m hll
          rw [hz] at hrow
          rw [hW6]
          refine ⟨(hf.blk G5.out.pb (by omega)).alloc _, (hf.blk G5.out.tb (by omega)).alloc _, (hf.blk G5.out.rb (by omega)).alloc _, (by simpa using G5.out.oB.set_ 2 (.slice (some ⟨w5.heap.size, 0, none⟩) 1 1) : Blk _ _ _ _).alloc _, own_mono hrow (by omega), fun y hy => ?_, (hf.own G5.out.stk (fun j hj e => own_blk_ne G5.out.stk G5.out.oB (by decide) (by rw [hj, e]))).alloc _,
            (G5.out.bel.trans (hf.below G5.out.bel.size (fun j hj => by omega))).alloc (by simp; have := G5.out.bel.size; omega) _, hob5, fun y hy => ?_⟩
          rotate_left
          · simp at hy
            subst hy
            have h0 : w5.ownsRow wr.heap.size 3 1 (.slice A (newFr p 0).locals.length c) (newFr p 0).locals.length (IS (newFr p 0).locals) := by rw [hll]; exact HO5.out
            intro j hj e
            have l1 := (h0.lt j hj).1
            have l2 := (G.out.stk.lt j e).2
            omega
          simp at hy
          subst hy
          have h0 : w5.ownsRow wr.heap.size 3 1 (.slice A (newFr p 0).locals.length c) (newFr p 0).locals.length (IS (newFr p 0).locals) := by rw [hll]; exact HO5.out
          have h1 := hf.own h0 (fun j hj e => own_blk_ne h0 G5.out.oB (by decide) (by rw [hj, e]))
          exact own_mono (h1.alloc _) (by omega)
        clear hW6 o2 q2
        have G6 := Lib.hid g6
        have r0 := (g6.rb.cell 0).trans rfl
        have u0 := g6.rb.frozen 0
        have o0 := (g6.oB.cell 0).trans rfl
        have r1 := (g6.rb.cell 1).trans rfl
        have u1 := g6.rb.frozen 1
        have o1 := (g6.oB.cell 1).trans rfl
        have r2 := (g6.rb.cell 2).trans rfl
        have u2 := g6.rb.frozen 2
        have o2 := (g6.oB.cell 2).trans rfl
        have r3 := (g6.rb.cell 3).trans rfl
        have u3 := g6.rb.frozen 3
        have o3 := (g6.oB.cell 3).trans rfl
        have r4 := (g6.rb.cell 4).trans rfl
        have u4 := g6.rb.frozen 4
        have o4 := (g6.oB.cell 4).trans rfl
        clear g6
        go_wp2_with fail
        refine bodyPost_ret (v := .agg #[.int .i64 0, .int .i64 0, .slice (some ⟨w5.heap.size, 0, none⟩) 1 1, .slice qA (numL t.stack 16).length qc, .int .i64 0]) (results_cell_row rfl _ _ (w.heap.size + 1 + 1) 29 _ (0, 0) _ rfl (Blk.set5 G6.out.rb _ _ _ _ _) Try.underlying29 rfl (by kernel_rfl)) rfl ?_
        obtain ⟨f1, f2, f3, f4, f5⟩ := G6.out.fin _ _ _ _ _ rfl
        have hfs : goodFs p t.frames = [newFr p 0] := by rw [goodFs, if_pos HNIL.out]
        refine ⟨⟨some ⟨w5.heap.size, 0, none⟩, 1, qA, qc⟩, ?_, ⟨_, ?_, ?_, f2, f3, f5⟩, f4⟩
        · show _ = Ending.returned (.agg #[.int .i64 0, .int .i64 0, .slice (some ⟨w5.heap.size, 0, none⟩) (goodFs p t.frames).length 1, .slice qA (numL t.stack 16).length qc, .int .i64 0])
          rw [hfs]; rfl
        · show World.ownsRow _ _ _ 3 (.slice (some ⟨w5.heap.size, 0, none⟩) (goodFs p t.frames).length 1) (goodFs p t.frames).length _
          rw [hfs]; exact f1
        · show _ = goodFs p t.frames
          rw [hfs]; rfl
      · have hex : i = t.frames.length ∨ i = 8 := by omega
        have hiI : ((i : Int) == 0) = false := by simp; omega
        have HEX := Lib.hid hex; have HI0 := Lib.hid hi0
        have r0 := (g.rb.cell 0).trans rfl
        have u0 := g.rb.frozen 0
        have o0 := (g.oB.cell 0).trans rfl
        have r1 := (g.rb.cell 1).trans rfl
        have u1 := g.rb.frozen 1
        have o1 := (g.oB.cell 1).trans rfl
        have r2 := (g.rb.cell 2).trans rfl
        have u2 := g.rb.frozen 2
        have o2 := (g.oB.cell 2).trans rfl
        have r3 := (g.rb.cell 3).trans rfl
        have u3 := g.rb.frozen 3
        have o3 := (g.oB.cell 3).trans rfl
        have r4 := (g.rb.cell 4).trans rfl
        have u4 := g.rb.frozen 4
        have o4 := (g.oB.cell 4).trans rfl
        clear g
        by_cases hlt1 : i < t.frames.length
        all_goals
          try have h8 : ¬ i < 8 := by omega
          clear hcnd hex hi0
          go_wp2_with fail
          refine bodyPost_ret (v := .agg #[.int .i64 0, .int .i64 0, .slice vA i vc, .slice qA (numL t.stack 16).length qc, .int .i64 0]) (results_cell_row rfl _ _ (w.heap.size + 1 + 1) 29 _ (0, 0) _ rfl (Blk.set5 G.out.rb _ _ _ _ _) Try.underlying29 rfl (by kernel_rfl)) rfl ?_
          obtain ⟨f1, f2, f3, f4, f5⟩ := G.out.fin _ _ _ _ _ rfl
          have hex := HEX.out
          have hi0 := HI0.out
          have hfs : goodFs p t.frames = ts.map TFr.f := by
            have hne : t.frames ≠ [] := fun e => by
              have h0 : t.frames.length = 0 := by rw [e]; rfl
              omega
            rw [HTS.out, goodFs, if_neg hne]
            rcases hex with e | e
            · rw [List.take_of_length_le (by omega), List.take_of_length_le (by omega)]
            · rw [e]
          have hln : (goodFs p t.frames).length = i := by have e := f1.1; rw [FrS_length] at e; rw [hfs, List.length_map]; omega
          refine ⟨⟨vA, vc, qA, qc⟩, ?_, ⟨ts, ?_, ?_, f2, f3, f5⟩, f4⟩
          · show _ = Ending.returned (.agg #[.int .i64 0, .int .i64 0, .slice vA (goodFs p t.frames).length vc, .slice qA (numL t.stack 16).length qc, .int .i64 0])
            rw [hln]
          · show World.ownsRow _ _ _ 3 (.slice vA (goodFs p t.frames).length vc) (goodFs p t.frames).length _
            rw [hln]; exact f1
          · exact hfs.symm
theorem good4_any (h : PH) (p : PV) (w : World) (B : Nat) (hr : RP w B h p) (hB : B ≤ w.heap.size) (hfl : FewLoc p) (hlen : Lens p) (hcl : ∀ f ∈ p.funcs, f.code.length ≤ 1000000) (hn1 : 1 ≤ p.funcs.length) (ht : TH) (t : TV) (E : Nat → Prop) (hrt : RT w E ht t) (hfit : FitT t) (hlt : LenT t) :
    Calls Try.prog 10 #[.agg #[.slice h.fA p.funcs.length h.fc, .int .i64 p.mutexes, .slice h.cA p.conds.length h.cc, .slice h.sA p.semas.length h.sc, .slice h.hA p.chans.length h.hc, .slice h.xA p.choices.length h.xc, .int .i64 p.threads], .agg #[.int .i64 t.state, .int .i64 t.on, .slice ht.fA t.frames.length ht.fc, .slice ht.sA t.stack.length ht.sc, .int .i64 t.code]] w
      fun e w' => ∃ h' : TH, e = .returned (.agg #[.int .i64 (goodT p t).state, .int .i64 (goodT p t).on, .slice h'.fA (goodT p t).frames.length h'.fc, .slice h'.sA (goodT p t).stack.length h'.sc, .int .i64 (goodT p t).code]) ∧ RT w' (fun i => w.heap.size ≤ i) h' (goodT p t) ∧ Below w.heap.size w w' :=
  (good4_own h p w B hr hB hfl hlen hcl hn1 ht t E hrt hfit hlt).mono fun e w' ⟨h', e1, ⟨ts, e2⟩, e3⟩ => ⟨h', e1, e2.rt, e3⟩
end Go.Proofs.Ytkciedcfphhenaa
