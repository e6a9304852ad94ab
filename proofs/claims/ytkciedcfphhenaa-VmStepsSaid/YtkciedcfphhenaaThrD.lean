
/-
  Push, Enter: of the program.
-/
import Derived.Test.YtkciedcfphhenaaThrC
import Derived.Deep.RegionLawGrows
import Derived.Deep.DeepCutAuto
import Derived.Deep.CutBlock
set_option linter.unusedVariables false
set_option linter.unusedSimpArgs false
namespace Go.Proofs.Ytkciedcfphhenaa
open Go.RowKit Plain

/-- A thread behind share, in the two boxes of a call: its frames are its own, its numbers are cut. -/
structure Shd (w W : World) (g1 g2 base : Nat) (D : Nat → Prop) (t : TV) (A' : Option Addr) (c' : Nat) (sA : Option Addr) (ts : List TFr) : Prop where
  bx : Blk W g1 29 #[.int .i64 t.state, .int .i64 t.on, .slice A' t.frames.length c', .slice sA t.stack.length t.stack.length, .int .i64 t.code]
  rb : Blk W g2 29 #[.int .i64 0, .int .i64 0, .slice none 0 0, .slice none 0 0, .int .i64 0]
  row : W.ownsRow base 67 3 (.slice A' t.frames.length c') t.frames.length (FrS ts)
  fs : ts.map TFr.f = t.frames
  each : ∀ x ∈ ts, x.c = x.f.locals.length ∧ RID W D x.A x.f.locals.length x.f.locals.length x.f.locals
  stack : RID W D sA t.stack.length t.stack.length t.stack
  bel : Below w.heap.size w W
  h1 : w.heap.size ≤ g1 ∧ g1 < base
  h2 : w.heap.size ≤ g2 ∧ g2 < base
  ne : g1 ≠ g2
  hD : ∀ i, D i → i < w.heap.size
theorem Shd.below {w W W' : World} {g1 g2 base : Nat} {D : Nat → Prop} {t : TV} {A' : Option Addr} {c' : Nat} {sA : Option Addr} {ts : List TFr} (g : Shd w W g1 g2 base D t A' c' sA ts) (hb : Below W.heap.size W W') : Shd w W' g1 g2 base D t A' c' sA ts := by
  have hz := g.bel.size
  exact ⟨g.bx.below hb g.bx.lt, g.rb.below hb g.rb.lt, (Fr.of_below hb).own g.row (fun i hi e => by have := (g.row.lt i hi).2; omega), g.fs, fun x hx => ⟨(g.each x hx).1, (g.each x hx).2.keep fun p _ hp => hb.cell hp⟩, g.stack.keep fun p _ hp => hb.cell hp,
    g.bel.trans (hb.mono hz), g.h1, g.h2, g.ne, g.hD⟩
theorem shd_of {w w1 : World} {g1 g2 base : Nat} {D : Nat → Prop} {t : TV} {A' : Option Addr} {c' : Nat} {fA sA : Option Addr} {fc sc : Nat} {ts : List TFr} (hbx : Blk w1 g1 29 #[.int .i64 t.state, .int .i64 t.on, .slice fA t.frames.length fc, .slice sA t.stack.length sc, .int .i64 t.code])
    (hrb : Blk w1 g2 29 #[.int .i64 0, .int .i64 0, .slice none 0 0, .slice none 0 0, .int .i64 0]) (hne : g1 ≠ g2) (h1 : w.heap.size ≤ g1 ∧ g1 < base) (h2 : w.heap.size ≤ g2 ∧ g2 < base) (hown : w1.ownsRow base 67 3 (.slice A' t.frames.length c') t.frames.length (FrS ts)) (hfs : ts.map TFr.f = t.frames)
    (heach : ∀ x ∈ ts, x.c = x.f.locals.length ∧ RID w1 D x.A x.f.locals.length x.f.locals.length x.f.locals) (hst : RID w1 D sA t.stack.length sc t.stack) (hbel : Below w.heap.size w w1) (hD : ∀ i, D i → i < w.heap.size) :
    Shd w (((((w1.setCell ⟨g1, 0, none⟩ (.int .i64 t.state)).setCell ⟨g1, 1, none⟩ (.int .i64 t.on)).setCell ⟨g1, 2, none⟩ (.slice A' t.frames.length c')).setCell ⟨g1, 3, none⟩ (.slice sA t.stack.length t.stack.length)).setCell ⟨g1, 4, none⟩ (.int .i64 t.code)) g1 g2 base D t A' c' sA ts := by
  have hfr := (Fr.refl (fun i => i = g1) w1).set5 (g := g1) (.inl rfl) (.int .i64 t.state) (.int .i64 t.on) (.slice A' t.frames.length c') (.slice sA t.stack.length t.stack.length) (.int .i64 t.code)
  have hz := hbel.size
  have hk : ∀ p : Addr, D p.block → p.block < w1.heap.size → (((((w1.setCell ⟨g1, 0, none⟩ (.int .i64 t.state)).setCell ⟨g1, 1, none⟩ (.int .i64 t.on)).setCell ⟨g1, 2, none⟩ (.slice A' t.frames.length c')).setCell ⟨g1, 3, none⟩ (.slice sA t.stack.length t.stack.length)).setCell ⟨g1, 4, none⟩ (.int .i64 t.code)).cell? p = w1.cell? p := fun p hd hp => hfr.cell hp (fun e => by have := hD _ hd; omega)
  exact ⟨hbx.set5 _ _ _ _ _, hfr.blk hrb (by omega), hfr.own hown (fun i hi e => by have := (hown.lt i hi).1; omega), hfs, fun x hx => ⟨(heach x hx).1, (heach x hx).2.keep hk⟩, ⟨hst.1, Nat.le_refl _, (hst.keep hk).2.2⟩,
    hbel.trans (hfr.below hz (fun i hi => by omega)), h1, h2, hne, hD⟩
/-- A thread behind share, its numbers others: it stands in memory. -/
theorem Shd.rt {w w' W5 : World} {g1 g2 base : Nat} {D : Nat → Prop} {t : TV} {A' : Option Addr} {c' : Nat} {sA : Option Addr} {ts : List TFr} (g : Shd w w' g1 g2 base D t A' c' sA ts) (hf : Fr (fun i => i = g1 ∨ i = g2) w' W5) {An : Option Addr} {cn : Nat} {st : List Int}
    (hst : RID W5 (fun i => D i ∨ w.heap.size ≤ i) An st.length cn st) : RT W5 (fun i => D i ∨ w.heap.size ≤ i) ⟨A', c', An, cn⟩ { t with stack := st } ∧ Below w.heap.size w W5 := by
  have hz := g.bel.size
  have h1 := g.h1
  have h2 := g.h2
  have hD := g.hD
  refine ⟨⟨rgd_of_own (hf.own g.row (fun i hi e => by have := (g.row.lt i hi).1; rcases e with e | e <;> omega)) g.fs (fun i hi => .inr (by omega)) (fun x hx => ?_), hst⟩, g.bel.trans (hf.below hz (fun i hi => by rcases hi with e | e <;> omega))⟩
  obtain ⟨e, hri⟩ := g.each x hx
  rw [e]
  exact (hri.keep fun p hd hp => hf.cell hp (fun e => by have := hD _ hd; rcases e with e | e <;> omega)).mono (fun i hi _ => .inl hi)
theorem Shd.stk {w w' W5 : World} {g1 g2 base : Nat} {D : Nat → Prop} {t : TV} {A' : Option Addr} {c' : Nat} {sA : Option Addr} {ts : List TFr} (g : Shd w w' g1 g2 base D t A' c' sA ts) (hf : Fr (fun i => i = g1 ∨ i = g2) w' W5) :
    RID W5 (fun i => D i ∨ w.heap.size ≤ i) sA t.stack.length t.stack.length t.stack := by
  have h1 := g.h1
  have h2 := g.h2
  exact (g.stack.keep fun p hd hp => hf.cell hp (fun e => by have := g.hD _ hd; rcases e with e | e <;> omega)).mono (fun i hi _ => .inl hi)
theorem RT.cut {w : World} {D : Nat → Prop} {h : TH} {t : TV} (g : RT w D h t) : RT w (fun i => D i ∧ i < w.heap.size) h t := g.mono fun i hi hl => ⟨hi, hl⟩
theorem RT.wide {w : World} {D : Nat → Prop} {h : TH} {t : TV} {n : Nat} (g : RT w (fun i => (D i ∧ i < n) ∨ n ≤ i) h t) : RT w (fun i => D i ∨ n ≤ i) h t := g.mono fun i hi _ => hi.elim (fun e => .inl e.1) .inr
theorem holds_of {W : World} {B : Nat} {A : Option Addr} {n c : Nat} {l : List Int} (h : RI W B A n c l) (hB : B ≤ W.heap.size) (o : Obj) : ∀ b, A = some b → ∀ j u, (IS l)[j]? = some u → (W.drew.alloc o).cell? (b.add j) = some u := by
  intro b hb j u hu
  have hj : j < n := by have := (List.getElem?_eq_some_iff.1 hu).1; rw [IS_length] at this; have := h.1; omega
  obtain ⟨ad, e, hlt, hc⟩ := h.2.2.2 (by omega)
  rw [hb] at e
  injection e with e
  subst e
  rw [World.cell?_alloc_lt _ _ _ (show (b.add j).block < _ by rw [block_of_add]; show b.block < W.heap.size; omega)]
  exact hc j u hu
theorem none_of {W : World} {B : Nat} {A : Option Addr} {n c : Nat} {l : List Int} (h : RI W B A n c l) : A = none → n = 0 ∧ n = 0 := by
  rintro rfl
  rcases Nat.eq_zero_or_pos n with h0 | h0
  · exact ⟨h0, h0⟩
  · obtain ⟨ad, e, _⟩ := h.2.2.2 (by omega)
    cases e

set_option maxHeartbeats 4000000 in
set_option maxRecDepth 100000 in
theorem push_yes (h : TH) (t : TV) (v : Int) (w : World) (D : Nat → Prop) (hr : RT w D h t) (hl : LensT t) (hroom : t.stack.length < 16) :
    Calls Try.prog 83 #[.agg #[.int .i64 t.state, .int .i64 t.on, .slice h.fA t.frames.length h.fc, .slice h.sA t.stack.length h.sc, .int .i64 t.code], .int .i64 v] w
      fun e w' => ∃ h' : TH, e = .returned (.tuple #[.agg #[.int .i64 (pushT t v).state, .int .i64 (pushT t v).on, .slice h'.fA (pushT t v).frames.length h'.fc, .slice h'.sA (pushT t v).stack.length h'.sc, .int .i64 (pushT t v).code], .bool true]) ∧ RT w' (fun i => D i ∨ w.heap.size ≤ i) h' (pushT t v) ∧ Below w.heap.size w w' := by
  obtain ⟨i0, hi0, hz0, hz1, hz2⟩ := info_parts info_int
  have hshare := fun (W : World) (hW : RT W (fun i => D i ∧ i < w.heap.size) h t) => share_any h t W _ hW hl
  have HS := Lib.hid hshare
  obtain ⟨fA, fc, sA, sc⟩ := h
  have HR := Lib.hid hr.cut
  clear hr hshare hl
  go_enter Try.func83, Try.ntmps83
  go_wp2_with fail
  refine (HS.out _ ((HR.out.alloc _).alloc _)).mono ?_
  rintro e w1 ⟨A', c', ts, rfl, hown, hfs, heach, hb⟩
  obtain ⟨W2, hW2⟩ : ∃ W, W = (w.alloc (.cells #[.int .i64 t.state, .int .i64 t.on, .slice fA t.frames.length fc, .slice sA t.stack.length sc, .int .i64 t.code] 29)).alloc (.cells #[.int .i64 0, .int .i64 0, .slice none 0 0, .slice none 0 0, .int .i64 0] 29) := ⟨_, rfl⟩
  have hz : W2.heap.size = w.heap.size + 1 + 1 := by rw [hW2]; simp
  have hbx2 : Blk W2 w.heap.size 29 #[.int .i64 t.state, .int .i64 t.on, .slice fA t.frames.length fc, .slice sA t.stack.length sc, .int .i64 t.code] := by rw [hW2]; exact (Blk.new w _ _).alloc _
  have hrb2 : Blk W2 (w.heap.size + 1) 29 #[.int .i64 0, .int .i64 0, .slice none 0 0, .slice none 0 0, .int .i64 0] := by rw [hW2]; simpa using Blk.new (w.alloc (.cells #[.int .i64 t.state, .int .i64 t.on, .slice fA t.frames.length fc, .slice sA t.stack.length sc, .int .i64 t.code] 29)) 29 #[.int .i64 0, .int .i64 0, .slice none 0 0, .slice none 0 0, .int .i64 0]
  have hbel2 : Below w.heap.size w W2 := by rw [hW2]; exact ((Below.refl w.heap.size w).alloc (Nat.le_refl _) _).alloc (by simp) _
  rw [← hW2] at hown hb heach
  have hri2 : RT W2 (fun i => D i ∧ i < w.heap.size) ⟨fA, fc, sA, sc⟩ t := by rw [hW2]; exact (HR.out.alloc _).alloc _
  clear hW2
  rw [hz] at hown hb
  have hsz := hb.size
  rw [hz] at hsz
  have hbx1 := hbx2.below hb (by omega)
  have hrb1 := hrb2.below hb (by omega)
  have hbel1 : Below w.heap.size w w1 := hbel2.trans (hb.mono (by omega))
  have hst1 : RID w1 (fun i => D i ∧ i < w.heap.size) sA t.stack.length sc t.stack := (hri2.stack).keep fun p hd _ => hb.cell (by omega)
  have hea1 : ∀ x ∈ ts, x.c = x.f.locals.length ∧ RID w1 (fun i => D i ∧ i < w.heap.size) x.A x.f.locals.length x.f.locals.length x.f.locals := fun x hx => ⟨(heach x hx).1, (heach x hx).2.keep fun p hd _ => hb.cell (by omega)⟩
  have x0 := (hbx1.cell 0).trans rfl
  have x1 := (hbx1.cell 1).trans rfl
  have x2 := (hbx1.cell 2).trans rfl
  have x3 := (hbx1.cell 3).trans rfl
  have x4 := (hbx1.cell 4).trans rfl
  have y0 := hbx1.frozen 0
  have y1 := hbx1.frozen 1
  have y2 := hbx1.frozen 2
  have y3 := hbx1.frozen 3
  have y4 := hbx1.frozen 4
  have H1 := Lib.hid hbx1; have H2 := Lib.hid hrb1; have H3 := Lib.hid hbel1; have H4 := Lib.hid hst1; have H5 := Lib.hid hea1; have H6 := Lib.hid hown; have H7 := Lib.hid hfs
  have hlt : w.heap.size < w1.heap.size := by omega
  clear hbx2 hrb2 hbel2 hri2 hown hb heach hbx1 hrb1 hbel1 hst1 hea1 hfs hsz hz
  go_upto_region 4 with fail
  have hsd := shd_of (w := w) H1.out H2.out (by omega) ⟨Nat.le_refl _, by omega⟩ ⟨by omega, by omega⟩ H6.out H7.out H5.out H4.out H3.out (fun i hi => hi.2)
  obtain ⟨W3, hW3⟩ : ∃ W, W = (((((w1.setCell ⟨w.heap.size, 0, none⟩ (.int .i64 t.state)).setCell ⟨w.heap.size, 1, none⟩ (.int .i64 t.on)).setCell ⟨w.heap.size, 2, none⟩ (.slice A' t.frames.length c')).setCell ⟨w.heap.size, 3, none⟩ (.slice sA t.stack.length t.stack.length)).setCell ⟨w.heap.size, 4, none⟩ (.int .i64 t.code)) := ⟨_, rfl⟩
  rw [← hW3] at hsd ⊢
  have x3 : W3.cell? ⟨w.heap.size, 3, none⟩ = some (.slice sA t.stack.length t.stack.length) := (hsd.bx.cell 3).trans rfl
  have y3 := hsd.bx.frozen 3
  have hlt3 : w.heap.size < W3.heap.size := hsd.bx.lt
  have G := Lib.hid hsd
  clear hW3 H1 H2 H3 H4 H5 H6 H7 x0 x1 x2 x3 x4 y0 y1 y2 y4 hlt hsd
  have x3 : W3.cell? ⟨w.heap.size, 3, none⟩ = some (.slice sA t.stack.length t.stack.length) := (G.out.bx.cell 3).trans rfl
  go_region_law (first
    | (refine step_append_grows (by rfl) (.tmp 14) (.tmp 17) _ (by rfl) 3 i0 _ 1 8 Try.underlying23 hi0 hz0 hz1 hz2 rfl (by decide) sA t.stack.length t.stack.length (IS t.stack) (by rfl) (none_of G.out.stack.ri) (by rw [IS_length]; omega) (holds_of G.out.stack.ri (Nat.le_refl _) _) ⟨W3.heap.size, 0, none⟩ 1 1 [.int .i64 (keep v)] (by rfl) rfl
        (by intro j u hj; match j, hj with | 0, hj => (simp at hj; subst hj; simp [Addr.add])) (by intro u hu; simp at hu; subst hu; rfl) (by omega) (by unfold maxLen; omega) (by omega) ?_
       intro v' w' hown' hg'
       obtain ⟨An, cn, rfl, _, _⟩ := own_slice hown'
       have hbw : Below W3.heap.size W3 w' := (((Below.refl W3.heap.size W3).drew).alloc (Nat.le_refl _) _).grown hg' (by simp) (by simp)
       have z3 := ((G.out.below hbw).bx.cell 3).trans rfl
       have zf := (G.out.below hbw).bx.frozen 3)
    | (go_simp; refine (keep_any v _).mono ?_; rintro e wq ⟨rfl, rfl⟩; go_wp2_with fail))
  all_goals
    obtain ⟨W4, hW4⟩ : ∃ W, W = w'.setCell ⟨w.heap.size, 3, none⟩ (.slice An (t.stack.length + 1) cn) := ⟨_, rfl⟩
    rw [← hW4]
    have gb := G.out.below hbw
    have hb4 : Blk W4 w.heap.size 29 #[.int .i64 t.state, .int .i64 t.on, .slice A' t.frames.length c', .slice An (t.stack.length + 1) cn, .int .i64 t.code] := by rw [hW4]; simpa using gb.bx.set_ 3 (.slice An (t.stack.length + 1) cn)
    have hr4 : Blk W4 (w.heap.size + 1) 29 #[.int .i64 0, .int .i64 0, .slice none 0 0, .slice none 0 0, .int .i64 0] := by rw [hW4]; exact gb.rb.far (by simp) _
    have hfr4 : Fr (fun i => i = w.heap.size ∨ i = w.heap.size + 1) w' W4 := by rw [hW4]; exact (Fr.refl _ w').setCell (.inl (.inl rfl)) _
    have q0 := (hb4.cell 0).trans rfl
    have q1 := (hb4.cell 1).trans rfl
    have q2 := (hb4.cell 2).trans rfl
    have q3 := (hb4.cell 3).trans rfl
    have q4 := (hb4.cell 4).trans rfl
    have r0 := (hr4.cell 0).trans rfl
    have r1 := (hr4.cell 1).trans rfl
    have r2 := (hr4.cell 2).trans rfl
    have r3 := (hr4.cell 3).trans rfl
    have r4 := (hr4.cell 4).trans rfl
    have u0 := hr4.frozen 0
    have u1 := hr4.frozen 1
    have u2 := hr4.frozen 2
    have u3 := hr4.frozen 3
    have u4 := hr4.frozen 4
    have hlt4 : w.heap.size + 1 < W4.heap.size := hr4.lt
    have hstk : IS t.stack ++ [.int .i64 (keep v)] = IS (t.stack ++ [keep v]) := by simp [IS]
    rw [hstk] at hown'
    have hbase := (G.out.bel.size)
    have K1 := Lib.hid gb; have K2 := Lib.hid hr4; have K3 := Lib.hid hfr4; have K4 := Lib.hid hown'; have K5 := Lib.hid hbw
    clear gb hb4 hr4 hfr4 hown' hbw hW4 hg' z3 zf x3 y3 G hstk
    go_wp2_with fail
    refine bodyPost_ret (v := .tuple #[.agg #[.int .i64 t.state, .int .i64 t.on, .slice A' t.frames.length c', .slice An (t.stack.length + 1) cn, .int .i64 t.code], .bool true]) (results_cell_slot rfl _ _ (w.heap.size + 1) 29 _ (0, 0) _ _ rfl rfl (Blk.set5 K2.out _ _ _ _ _) Try.underlying29 rfl (by kernel_rfl)) rfl ?_
    have hf := K3.out.set5 (g := w.heap.size + 1) (.inl (.inr rfl)) (.int .i64 t.state) (.int .i64 t.on) (.slice A' t.frames.length c') (.slice An (t.stack.length + 1) cn) (.int .i64 t.code)
    have ho5 := hf.own K4.out (fun i hi e => by have := (K4.out.lt i hi).1; simp at this; rcases e with e | e <;> omega)
    have hri5 := (rid_of_own ho5 (by simp)).mono (E := fun i => (D i ∧ i < w.heap.size) ∨ w.heap.size ≤ i) (fun i hi _ => .inr (by simp at hi; omega))
    have hrt := K1.out.rt hf (st := t.stack ++ [keep v]) (by simpa using hri5)
    exact ⟨⟨A', c', An, cn⟩, by simp [pushT], hrt.1.wide, hrt.2⟩
set_option maxHeartbeats 4000000 in
set_option maxRecDepth 100000 in
theorem push_no (h : TH) (t : TV) (v : Int) (w : World) (D : Nat → Prop) (hr : RT w D h t) (hl : LensT t) (hroom : 16 ≤ t.stack.length) :
    Calls Try.prog 83 #[.agg #[.int .i64 t.state, .int .i64 t.on, .slice h.fA t.frames.length h.fc, .slice h.sA t.stack.length h.sc, .int .i64 t.code], .int .i64 v] w
      fun e w' => ∃ h' : TH, e = .returned (.tuple #[.agg #[.int .i64 t.state, .int .i64 t.on, .slice h'.fA t.frames.length h'.fc, .slice h'.sA t.stack.length h'.sc, .int .i64 t.code], .bool false]) ∧ RT w' (fun i => D i ∨ w.heap.size ≤ i) h' t ∧ Below w.heap.size w w' := by
  obtain ⟨i0, hi0, hz0, hz1, hz2⟩ := info_parts info_int
  have hshare := fun (W : World) (hW : RT W (fun i => D i ∧ i < w.heap.size) h t) => share_any h t W _ hW hl
  have HS := Lib.hid hshare
  obtain ⟨fA, fc, sA, sc⟩ := h
  have HR := Lib.hid hr.cut
  clear hr hshare hl
  go_enter Try.func83, Try.ntmps83
  go_wp2_with fail
  refine (HS.out _ ((HR.out.alloc _).alloc _)).mono ?_
  rintro e w1 ⟨A', c', ts, rfl, hown, hfs, heach, hb⟩
  obtain ⟨W2, hW2⟩ : ∃ W, W = (w.alloc (.cells #[.int .i64 t.state, .int .i64 t.on, .slice fA t.frames.length fc, .slice sA t.stack.length sc, .int .i64 t.code] 29)).alloc (.cells #[.int .i64 0, .int .i64 0, .slice none 0 0, .slice none 0 0, .int .i64 0] 29) := ⟨_, rfl⟩
  have hz : W2.heap.size = w.heap.size + 1 + 1 := by rw [hW2]; simp
  have hbx2 : Blk W2 w.heap.size 29 #[.int .i64 t.state, .int .i64 t.on, .slice fA t.frames.length fc, .slice sA t.stack.length sc, .int .i64 t.code] := by rw [hW2]; exact (Blk.new w _ _).alloc _
  have hrb2 : Blk W2 (w.heap.size + 1) 29 #[.int .i64 0, .int .i64 0, .slice none 0 0, .slice none 0 0, .int .i64 0] := by rw [hW2]; simpa using Blk.new (w.alloc (.cells #[.int .i64 t.state, .int .i64 t.on, .slice fA t.frames.length fc, .slice sA t.stack.length sc, .int .i64 t.code] 29)) 29 #[.int .i64 0, .int .i64 0, .slice none 0 0, .slice none 0 0, .int .i64 0]
  have hbel2 : Below w.heap.size w W2 := by rw [hW2]; exact ((Below.refl w.heap.size w).alloc (Nat.le_refl _) _).alloc (by simp) _
  rw [← hW2] at hown hb heach
  have hri2 : RT W2 (fun i => D i ∧ i < w.heap.size) ⟨fA, fc, sA, sc⟩ t := by rw [hW2]; exact (HR.out.alloc _).alloc _
  clear hW2
  rw [hz] at hown hb
  have hsz := hb.size
  rw [hz] at hsz
  have hbx1 := hbx2.below hb (by omega)
  have hrb1 := hrb2.below hb (by omega)
  have hbel1 : Below w.heap.size w w1 := hbel2.trans (hb.mono (by omega))
  have hst1 : RID w1 (fun i => D i ∧ i < w.heap.size) sA t.stack.length sc t.stack := (hri2.stack).keep fun p hd _ => hb.cell (by omega)
  have hea1 : ∀ x ∈ ts, x.c = x.f.locals.length ∧ RID w1 (fun i => D i ∧ i < w.heap.size) x.A x.f.locals.length x.f.locals.length x.f.locals := fun x hx => ⟨(heach x hx).1, (heach x hx).2.keep fun p hd _ => hb.cell (by omega)⟩
  have x0 := (hbx1.cell 0).trans rfl
  have x1 := (hbx1.cell 1).trans rfl
  have x2 := (hbx1.cell 2).trans rfl
  have x3 := (hbx1.cell 3).trans rfl
  have x4 := (hbx1.cell 4).trans rfl
  have y0 := hbx1.frozen 0
  have y1 := hbx1.frozen 1
  have y2 := hbx1.frozen 2
  have y3 := hbx1.frozen 3
  have y4 := hbx1.frozen 4
  have H1 := Lib.hid hbx1; have H2 := Lib.hid hrb1; have H3 := Lib.hid hbel1; have H4 := Lib.hid hst1; have H5 := Lib.hid hea1; have H6 := Lib.hid hown; have H7 := Lib.hid hfs
  have hlt : w.heap.size + 1 < w1.heap.size := by omega
  have hlt0 : w.heap.size < w1.heap.size := by omega
  have r0 := (H2.out.cell 0).trans rfl
  have r1 := (H2.out.cell 1).trans rfl
  have r2 := (H2.out.cell 2).trans rfl
  have r3 := (H2.out.cell 3).trans rfl
  have r4 := (H2.out.cell 4).trans rfl
  have u0 := H2.out.frozen 0
  have u1 := H2.out.frozen 1
  have u2 := H2.out.frozen 2
  have u3 := H2.out.frozen 3
  have u4 := H2.out.frozen 4
  clear hbx2 hrb2 hbel2 hri2 hown hb heach hbx1 hrb1 hbel1 hst1 hea1 hfs hsz hz
  have hsd := shd_of (w := w) H1.out H2.out (by omega) ⟨Nat.le_refl _, by omega⟩ ⟨by omega, by omega⟩ H6.out H7.out H5.out H4.out H3.out (fun i hi => hi.2)
  have G := Lib.hid hsd
  clear hsd H3 H4 H5 H6 H7
  go_wp2_with fail
  refine bodyPost_ret (v := .tuple #[.agg #[.int .i64 t.state, .int .i64 t.on, .slice A' t.frames.length c', .slice sA t.stack.length t.stack.length, .int .i64 t.code], .bool false]) (results_cell_slot rfl _ _ (w.heap.size + 1) 29 _ (0, 0) _ _ rfl rfl (Blk.set5 G.out.rb _ _ _ _ _) Try.underlying29 rfl (by kernel_rfl)) rfl ?_
  have hf := (Fr.refl (fun i => i = w.heap.size ∨ i = w.heap.size + 1) (((((w1.setCell ⟨w.heap.size, 0, none⟩ (.int .i64 t.state)).setCell ⟨w.heap.size, 1, none⟩ (.int .i64 t.on)).setCell ⟨w.heap.size, 2, none⟩ (.slice A' t.frames.length c')).setCell ⟨w.heap.size, 3, none⟩ (.slice sA t.stack.length t.stack.length)).setCell ⟨w.heap.size, 4, none⟩ (.int .i64 t.code))).set5 (g := w.heap.size + 1) (.inl (.inr rfl)) (.int .i64 t.state) (.int .i64 t.on) (.slice A' t.frames.length c') (.slice sA t.stack.length t.stack.length) (.int .i64 t.code)
  have hrt := G.out.rt hf (st := t.stack) (G.out.stk hf)
  exact ⟨⟨A', c', sA, t.stack.length⟩, rfl, hrt.1.wide, hrt.2⟩
end Go.Proofs.Ytkciedcfphhenaa
